package section_test

import (
	"testing"

	"clarion/api"
	"clarion/section"
)

// P8.1: fewer than 3 bytes, whatever they are; beside the error nothing is answered (R1).
func TestNeedOfTooFew(t *testing.T) {
	for _, s := range []string{"", "\x42", "\x00", "\xff", "\x42\xb0", "\x42\x00", "\xff\xff"} {
		if got := needed(s); got != (bytesOf{e: api.ErrShort}) {
			t.Errorf("%q: %+v", s, got)
		}
		if got := decoded(s); got != (told{e: api.ErrShort}) {
			t.Errorf("Decode of %q: %+v", s, got)
		}
	}
}

// P8.1: 3 bytes are enough, and what is behind them does not count; nor does Table.
func TestNeedOfThreeBytes(t *testing.T) {
	for n := range 256 {
		s := put("\x42\xb1\x23", 0, n)
		for _, behind := range []string{"", "\x00", "x", dots(0x123), dots(5000)} {
			if got := needed(s + behind); got != (bytesOf{n: 0x126}) {
				t.Errorf("%d and %d bytes: %+v", n, len(behind), got)
			}
		}
	}
}

// P8.1: all that two bytes behind Table may be, each of the four bits turned and each length among them.
func TestNeedOfAll(t *testing.T) {
	good := 0
	for n := range 1 << 16 {
		s := packed(signs(66, 8) + signs(n, 16))
		want := slowNeed(s)
		if got := needed(s); got != want {
			t.Fatalf("%#x: %+v, not %+v", n, got, want)
		}
		if want.e == api.OK {
			good++
		}
	}
	if good != 2*4085 {
		t.Error("lengths that may be, with Private and without:", good)
	}
}

// P8.1: the bits behind Table, each turned alone, and the lengths at the ends, by name.
func TestNeedByName(t *testing.T) {
	for s, want := range map[string]bytesOf{
		"\x42\xb0\x0b": {n: 14}, "\x42\xf0\x0b": {n: 14},
		"\x42\x30\x0b": {e: api.ErrForm}, "\x42\x90\x0b": {e: api.ErrForm}, "\x42\xa0\x0b": {e: api.ErrForm}, "\x42\x80\x0b": {e: api.ErrForm},
		"\x42\xb0\x00": {e: api.ErrForm}, "\x42\xb0\x08": {e: api.ErrForm}, "\x42\xb0\x09": {n: 12}, "\x42\xb0\xff": {n: 258}, "\x42\xb1\x00": {n: 259},
		"\x42\xbf\xfc": {n: 4095}, "\x42\xbf\xfd": {n: 4096}, "\x42\xbf\xfe": {e: api.ErrForm}, "\x42\xbf\xff": {e: api.ErrForm},
	} {
		if got := needed(s); got != want {
			t.Errorf("%q: %+v, not %+v", s, got, want)
		}
	}
}

// P8.2: as many bytes as Need tells, each fewer, and some more.
func TestDecodeOfEachLength(t *testing.T) {
	for _, s := range samples() {
		text := slowBytes(s)
		if got := decoded(text); got != (told{s: s}) {
			t.Fatalf("%s: %s, %v", short(s), short(got.s), got.e)
		}
		for n := range len(text) {
			if n > 20 && n < len(text)-20 && n%97 != 0 {
				continue
			}
			if got := decoded(text[:n]); got != (told{e: api.ErrShort}) {
				t.Fatalf("%s, %d bytes: %+v", short(s), n, got)
			}
		}
		for _, behind := range []string{"\x00", "x", "\xff", dots(5000), text, text[len(text)-4:]} {
			if got := decoded(text + behind); got != (told{e: api.ErrLong}) {
				t.Fatalf("%s, %d bytes more: %+v", short(s), len(behind), got)
			}
		}
	}
}

// P8.2: each of the two bits ahead of Version turned, and both: ErrSum; sealed anew ErrForm.
func TestDecodeOfTheTwoBits(t *testing.T) {
	for _, s := range samples() {
		good := slowBytes(s)
		for _, two := range []string{"00", "01", "10"} {
			text := seal(head(s, "111", len(s.Body)+9, two) + s.Body)
			if got := decoded(text); got != (told{e: api.ErrForm}) {
				t.Errorf("%s, %s: %+v", short(s), two, got)
			}
			if got := decoded(text[:len(text)-4] + good[len(good)-4:]); got != (told{e: api.ErrSum}) {
				t.Errorf("%s, %s, not sealed anew: %+v", short(s), two, got)
			}
		}
	}
}

// P8.2: Number at Last and above it, sealed.
func TestDecodeOfNumberAndLast(t *testing.T) {
	for last := 0; last < 256; last += 5 {
		for n := range 256 {
			s := section.Section{Table: 1, Number: n, Last: last, Body: "b"}
			want := told{s: s}
			if n > last {
				want = told{e: api.ErrForm}
			}
			if got := decoded(slowBytes(s)); got != want {
				t.Errorf("%d of %d: %+v", n, last, got)
			}
		}
	}
}

// P8.2: the bits behind Table, and the length, are asked ahead of all, though the check sum is right.
func TestDecodeOfWrongBeginnings(t *testing.T) {
	s := section.Section{Table: 66, Private: true, Body: "hi"}
	for _, marks := range []string{"011", "101", "110", "000"} {
		text := seal(head(s, marks, 11, "11") + s.Body)
		for _, c := range []string{text, text[:len(text)-1], text[:3], text + "x", put(text, len(text)-1, int(text[len(text)-1])^1)} {
			if got := decoded(c); got != (told{e: api.ErrForm}) {
				t.Errorf("%s, %q: %+v", marks, c, got)
			}
		}
	}
	for length, want := range map[int]api.Errno{0: api.ErrForm, 8: api.ErrForm, 9: api.ErrLong, 10: api.ErrLong, 11: api.OK, 12: api.ErrShort, 4093: api.ErrShort, 4094: api.ErrForm, 4095: api.ErrForm} {
		text := seal(head(s, "111", length, "11") + s.Body)
		if got := decoded(text); got.e != want || want != api.OK && got.s != (section.Section{}) {
			t.Errorf("%d: %+v, not %v", length, got, want)
		}
	}
	// Sealed bytes that are just as many as a length tells that may not be.
	for _, body := range []string{dots(4085), dots(4086)} {
		text := seal(head(s, "111", len(body)+9, "11") + body)
		if got := decoded(text); got != (told{e: api.ErrForm}) {
			t.Errorf("%d bytes: %v", len(text), got.e)
		}
	}
	if got := decoded(seal("\x42\xb0\x08\x00\x00\xc1\x00")); got != (told{e: api.ErrForm}) {
		t.Errorf("11 bytes: %+v", got)
	}
}

// P8.2: several things are wrong: what is named first is answered (R1).
func TestDecodeOfSeveralWrong(t *testing.T) {
	s := section.Section{Table: 66, Number: 1, Body: "hi"} // Number is above Last
	text := seal(head(s, "111", 11, "00") + s.Body)
	sum := put(text, 13, int(text[13])^0x80)
	for _, c := range []struct {
		text string
		want api.Errno
	}{
		{text, api.ErrForm}, {sum, api.ErrSum}, {sum[:13], api.ErrShort}, {sum + "x", api.ErrLong}, {text + "x", api.ErrLong}, {text[:13], api.ErrShort},
		{put(sum, 1, 0x30), api.ErrForm}, {put(sum, 1, 0x30)[:3], api.ErrForm}, {put(sum, 1, 0x30)[:2], api.ErrShort}, {put(sum, 2, 8), api.ErrForm}, {put(sum, 2, 10), api.ErrLong}, {put(sum, 2, 12), api.ErrShort},
	} {
		if got := decoded(c.text); got != (told{e: c.want}) {
			t.Errorf("%q: %+v, not %v", c.text, got, c.want)
		}
	}
}

// P8.2: the check sum is asked of all bytes: that of the bytes turned over, or in another order, is none.
func TestDecodeOfOtherSums(t *testing.T) {
	text := slowBytes(section.Section{Table: 66, Body: "hi"})
	sum := text[10:]
	for _, other := range []string{"\x00\x00\x00\x00", "\xff\xff\xff\xff", sum[3:] + sum[2:3] + sum[1:2] + sum[:1], string([]byte{^sum[0], ^sum[1], ^sum[2], ^sum[3]}), seal("hi")[2:], seal(text[3:10])[7:]} {
		if got := decoded(text[:10] + other); got != (told{e: api.ErrSum}) {
			t.Errorf("%q: %+v", other, got)
		}
	}
}

// P8.2: any bytes, with any beginning, sealed and not, by the words.
func TestDecodeOfAny(t *testing.T) {
	s := noise(11)
	seen := map[api.Errno]int{}
	for range 20000 {
		text := s.text(s.below(40))
		if len(text) > 3 && s.below(10) > 0 {
			text = put(put(text, 1, int(text[1])&0x40|0xb0), 2, max(0, len(text)-3+(s.below(9)-4)*s.below(2)*s.below(2)))
			if s.below(4) > 0 && len(text) > 11 {
				text = again(put(text, 5, int(text[5])|0xc0*s.below(2)))
			}
		}
		want := slowDecode(text)
		if got := decoded(text); got != want {
			t.Fatalf("%q: %+v, not %+v", text, got, want)
		}
		seen[want.e]++
	}
	for _, e := range []api.Errno{api.OK, api.ErrShort, api.ErrLong, api.ErrForm, api.ErrSum} {
		if seen[e] < 200 {
			t.Error("too few of a kind:", e, seen[e])
		}
	}
}
