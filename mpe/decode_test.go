package mpe_test

import (
	"strings"
	"testing"

	"clarion/api"
	"clarion/mpe"
)

// tells holds Decode against what it must answer; beside an error nothing is (R1).
func tells(t *testing.T, name, text string, want told) {
	t.Helper()
	if got := decoded(text); got != want {
		t.Errorf("%s, %d bytes %.20q: %s, %v, not %s, %v", name, len(text), text, short(got.p), got.e, short(want.p), want.e)
	}
}

// body is that of a part with a datagram, all bits of its times being 0.
func body() string { return "\x00\x00\x00\x00" + gram4(5, "hi") }

// P10.2: each of section.Decode's errors, by name.
func TestDecodeOfNoSections(t *testing.T) {
	text := good(body()).bytes()
	tells(t, "whole", text, told{p: mpe.Part{Text: gram4(5, "hi")}})
	for n := range len(text) {
		tells(t, "fewer", text[:n], told{e: api.ErrShort})
	}
	for _, more := range []string{"\x00", "x", "\xff", text, strings.Repeat("more", 3000)} {
		tells(t, "more", text+more, told{e: api.ErrLong})
	}
	for _, marks := range []int{0x30, 0x90, 0xa0, 0x00, 0x80} {
		tells(t, "marks", again(put(text, 1, marks)), told{e: api.ErrForm})
		tells(t, "three bytes", put(text, 1, marks)[:3], told{e: api.ErrForm})
	}
	for length, want := range map[int]api.Errno{0: api.ErrForm, 8: api.ErrForm, 9: api.ErrLong, 34: api.ErrLong, 36: api.ErrShort, 4093: api.ErrShort, 4094: api.ErrForm, 4095: api.ErrForm} {
		tells(t, "length", again(put(put(text, 1, 0xb0+length/256), 2, length%256)), told{e: want})
	}
	for at := 3; at < len(text); at++ {
		tells(t, "sum", put(text, at, int(text[at])^0x10), told{e: api.ErrSum})
	}
	for _, two := range []int{0x01, 0x41, 0x81} {
		tells(t, "two bits", again(put(text, 5, two)), told{e: api.ErrForm})
	}
	tells(t, "number above last", again(put(text, 6, 1)), told{e: api.ErrForm})
	tells(t, "no bytes", "", told{e: api.ErrShort})
	tells(t, "two bytes", "\x3e\xb0", told{e: api.ErrShort})
}

// P10.2: section.Decode's error is named ahead of another table (R1).
func TestDecodeOfNoSectionsOfAnotherTable(t *testing.T) {
	text := put(good(body()).bytes(), 0, 0x3f)
	tells(t, "sum", text, told{e: api.ErrSum})
	tells(t, "short", again(text)[:20], told{e: api.ErrShort})
	tells(t, "long", again(text)+"x", told{e: api.ErrLong})
	tells(t, "form", again(put(text, 1, 0x30)), told{e: api.ErrForm})
	tells(t, "two bits", again(put(text, 5, 1)), told{e: api.ErrForm})
	tells(t, "number above last", again(put(text, 6, 9)), told{e: api.ErrForm})
	tells(t, "whole", again(text), told{e: api.ErrKind})
}

// P10.2: each other table, whatever else is wrong behind it (R1).
func TestDecodeOfOtherTables(t *testing.T) {
	for n := range 256 {
		for _, r := range []raw{good(body()), good(""), good("\x00\x00\x00"), good("\x00\x00\x00\x00x"), {private: true, version: 31, last: 3, body: body()}} {
			r.table = n
			if n != 62 {
				tells(t, "table", r.bytes(), told{e: api.ErrKind})
			} else if r.body == body() && !r.private {
				tells(t, "table", r.bytes(), told{p: mpe.Part{Text: gram4(5, "hi")}})
			}
		}
	}
}

// others is sections of which Version, Now, Number and Last, or Private are not as they must be, each alone, and several.
func others(body string) []raw {
	l := []raw{
		{later: true}, {private: true}, {later: true, private: true}, {version: 31, private: true}, {version: 31, private: true, number: 3, last: 5},
		{version: 1, later: true, number: 1, last: 1, private: true},
	}
	for n := 1; n < 32; n++ {
		l = append(l, raw{version: n})
	}
	for n := 1; n < 256; n++ {
		l = append(l, raw{last: n}, raw{number: n, last: n}, raw{number: 1, last: n})
	}
	for n := range l {
		l[n].table, l[n].ext, l[n].body = 62, n*91, body
	}
	return l
}

// P10.2: each of them is ErrForm, also with a body that is short, or has no datagram: ErrForm is named first (R1).
func TestDecodeOfWhatMustBeOtherwise(t *testing.T) {
	for _, b := range []string{body(), "", "\x00\x00\x00", "\x00\x00\x00\x00", "\x00\x00\x00\x00x", body() + "x"} {
		for _, r := range others(b) {
			tells(t, "other", r.bytes(), told{e: api.ErrForm})
		}
	}
}

// P10.2: bodies of 0 to 5 bytes: fewer than four are ErrShort, behind four there is none, or less than a datagram.
func TestDecodeOfShortBodies(t *testing.T) {
	for _, all := range []string{"\x00\x00\x00\x00\x00", "\xff\xff\xff\xff\xff", "\x45\x45\x45\x45\x45", "\x60\x60\x60\x60\x60"} {
		for long := range 5 {
			tells(t, "short", good(all[:long]).bytes(), told{e: api.ErrShort})
		}
	}
	tells(t, "five, no version", good("\x00\x00\x00\x00x").bytes(), told{e: api.ErrKind})
	tells(t, "five, a version", good("\x00\x00\x00\x00\x45").bytes(), told{e: api.ErrShort})
	tells(t, "five, a version", good("\xff\xff\xff\xff\x60").bytes(), told{e: api.ErrShort})
	tells(t, "a datagram and no times", good(gram4(5, "hi")).bytes(), told{e: api.ErrKind})
}

// P10.2: bodies whose datagram is not right.
func TestDecodeOfNoDatagrams(t *testing.T) {
	for d, e := range noGrams() {
		tells(t, "none", good("\x00\x00\x00\x00"+d).bytes(), told{e: e})
		tells(t, "none", good("\xff\xff\xff\xff"+d).bytes(), told{e: e})
	}
}

// P10.2: the greatest body, with the longest datagram, and with one byte less of it.
func TestDecodeOfTheGreatest(t *testing.T) {
	for _, d := range []string{gram4(5, strings.Repeat("x", 4060)), gram6(strings.Repeat("x", 4040))} {
		tells(t, "longest", good("\x00\x00\x00\x00"+d).bytes(), told{p: mpe.Part{Text: d}})
		tells(t, "one less", good("\x00\x00\x00\x00"+d[:4079]).bytes(), told{e: api.ErrShort})
		tells(t, "cut", good("\x00\x00\x00\x00" + d).bytes()[:4095], told{e: api.ErrShort})
		tells(t, "more", good("\x00\x00\x00\x00"+d).bytes()+"x", told{e: api.ErrLong})
	}
}

// P10.2: times of no bit, of each bit alone, and of all of them, which are read whatever they are.
func TestDecodeOfTimes(t *testing.T) {
	d := gram6("hi")
	tells(t, "all", good("\xff\xff\xff\xff"+d).bytes(), told{p: mpe.Part{Times: allSet(), Text: d}})
	tells(t, "none", good("\x00\x00\x00\x00"+d).bytes(), told{p: mpe.Part{Text: d}})
	for n := range 32 {
		text := good(four(1<<n) + d).bytes()
		tells(t, "one bit", text, slowDecode(text))
		if decoded(text).e != api.OK {
			t.Error(n, "is not read")
		}
	}
}

// P10.2: each Mac.
func TestDecodeOfMacs(t *testing.T) {
	for n := 0; n < 65536; n += 1 + n%5*3 {
		r := good(body())
		r.ext = n
		tells(t, "mac", r.bytes(), told{p: mpe.Part{Mac: n, Text: gram4(5, "hi")}})
	}
	r := good(body())
	r.ext = 65535
	tells(t, "the last one", r.bytes(), told{p: mpe.Part{Mac: 65535, Text: gram4(5, "hi")}})
}

// any is a section of which each field may be another one.
func (s *noise) any() string {
	r := raw{table: 62, ext: s.below(65536), body: s.text(4) + s.gram(30)}
	if s.below(2) == 0 {
		r.body = r.body[:s.below(len(r.body))]
	}
	if s.below(4) == 0 {
		r.table = s.below(256)
	}
	if s.below(4) == 0 {
		r.version, r.private, r.later, r.last = s.below(2), s.below(2) == 0, s.below(2) == 0, s.below(2)
	}
	text := r.bytes()
	if at := s.below(len(text)); s.below(2) == 0 {
		text = again(put(text, at, s.below(256)))
	} else if s.below(3) == 0 {
		text = put(text, at, s.below(256))
	} else if s.below(10) == 0 {
		text += s.text(1 + s.below(3))
	}
	return text
}

// P10.2: any sections, sealed and not, by the words.
func TestDecodeOfAny(t *testing.T) {
	s := noise(11)
	seen := map[api.Errno]int{}
	for range 20000 {
		text := s.any()
		want := slowDecode(text)
		tells(t, "any", text, want)
		seen[want.e]++
	}
	for _, e := range []api.Errno{api.OK, api.ErrShort, api.ErrLong, api.ErrForm, api.ErrSum, api.ErrKind} {
		if seen[e] < 100 {
			t.Error("too few of a kind:", e, seen[e])
		}
	}
}
