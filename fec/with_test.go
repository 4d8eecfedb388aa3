package fec_test

import (
	"testing"

	"clarion/api"
)

// P11.2: times that may be: only the times and the check sum are other ones.
func TestWith(t *testing.T) {
	for n, p := range samples()[:14] {
		text := slowBytes(p)
		for _, x := range timesThatMayBe() {
			q := p
			q.Times = x
			if got := with(text, x); got != (bytesOf{text: slowBytes(q)}) {
				t.Fatalf("%d, %+v: %d bytes %.20q, %v", n, x, len(got.text), got.text, got.e)
			}
		}
	}
}

// P11.2: by hand, each of the four fields alone.
func TestWithByHand(t *testing.T) {
	column := filled('c', 768)
	for _, c := range []struct {
		had, want string
		x         api.Times
	}{
		{"\x00\x00\x00\x00", "\x00\x50\x00\x00", api.Times{Delta: 5}},
		{"\x00\x00\x00\x00", "\x00\x08\x00\x00", api.Times{Table: true}},
		{"\x00\x00\x00\x00", "\x00\x04\x00\x00", api.Times{Frame: true}},
		{"\x00\x00\x00\x00", "\x00\x00\x00\x03", api.Times{At: 3}},
		{"\xff\xff\xff\xff", "\x00\x00\x00\x00", api.Times{}},
		{"\x00\x00\x00\x00", "\xff\xff\xff\xff", allSet()},
		{"\x00\x58\x00\x03", "\x00\x68\x00\x03", api.Times{Delta: 6, Table: true, At: 3}},
	} {
		if got := with(good(c.had+column).bytes(), c.x); got != (bytesOf{text: good(c.want + column).bytes()}) {
			t.Errorf("%q, %+v: %.20q, %v", c.had, c.x, got.text, got.e)
		}
	}
}

// P11.2: times that may not be; beside the error nothing is answered (R1).
func TestWithOfTimesThatMayNotBe(t *testing.T) {
	for _, p := range samples()[:4] {
		for _, x := range timesThatMayNotBe() {
			if got := with(slowBytes(p), x); got != (bytesOf{e: api.ErrRange}) {
				t.Errorf("%s, %+v: %d bytes, %v", short(p), x, len(got.text), got.e)
			}
		}
	}
}

// wrong is bytes that Decode has an error for, each of its errors among them.
func wrong() map[string]api.Errno {
	text := good(body()).bytes()
	out := map[string]api.Errno{
		"": api.ErrShort, "\x78": api.ErrShort, text[:len(text)-1]: api.ErrShort, text + "x": api.ErrLong, put(text, 1, 0x71): api.ErrForm,
		put(text, 9, 1): api.ErrSum, again(put(text, 6, 3)): api.ErrForm, again(put(text, 0, 0x3e)): api.ErrKind, again(put(text, 5, 0xfe)): api.ErrForm,
		again(put(text, 5, 0xc1)): api.ErrForm, again(put(text, 1, 0xb1)): api.ErrForm, again(put(text, 4, 0)): api.ErrForm,
		again(put(text, 3, 192)): api.ErrRange, again(put(text, 3, 255)): api.ErrRange, again(put(text, 7, 64)): api.ErrRange, again(put(text, 7, 255)): api.ErrRange,
		good("").bytes(): api.ErrShort, good("\x00\x00\x00").bytes(): api.ErrShort, good("\x00\x00\x00\x00").bytes(): api.ErrForm,
	}
	for _, long := range wrongLongs() {
		if long <= 4080 {
			out[good("\x00\x00\x00\x00"+filled('c', long)).bytes()] = api.ErrForm
		}
	}
	return out
}

// P11.2: bytes that Decode has an error for, with times that may be and that may not: Decode's is named first (R1).
func TestWithOfNoParts(t *testing.T) {
	for text, e := range wrong() {
		tells(t, "none", text, told{e: e})
		for _, x := range []api.Times{{}, allSet(), {Delta: 5}, {Delta: 4096}, {Delta: -1}, {At: 262144}, {At: -1}} {
			if got := with(text, x); got != (bytesOf{e: e}) {
				t.Errorf("%.20q, %+v: %d bytes, %v, not %v", text, x, len(got.text), got.e, e)
			}
		}
	}
}

// P11.2: any sections and times, by the words.
func TestWithOfAny(t *testing.T) {
	s := noise(13)
	seen := map[api.Errno]int{}
	for range 5000 {
		text, x := s.any(), s.times()
		if s.below(4) == 0 {
			x.Delta += 4096 * (s.below(3) - 1)
			x.At += 262144 * (s.below(3) - 1)
		}
		want := slowWith(text, x)
		if got := with(text, x); got != want {
			t.Fatalf("%q, %+v: %q, %v, not %q, %v", text, x, got.text, got.e, want.text, want.e)
		}
		seen[want.e]++
	}
	if seen[api.OK] < 500 || seen[api.ErrRange] < 200 || seen[api.ErrSum] < 200 {
		t.Error("too few of a kind:", seen)
	}
}

// P11.2: the column, and the numbers that go with it, are as they were, whatever times come one behind the other.
func TestWithTurnsNoColumn(t *testing.T) {
	s := noise(15)
	for _, p := range samples() {
		text := slowBytes(p)
		for range 5 {
			x := s.times()
			next := with(text, x)
			p.Times = x
			if next.e != api.OK {
				t.Fatal(short(p), next.e)
			}
			tells(t, "with", next.text, told{p: p})
			text = next.text
		}
	}
}
