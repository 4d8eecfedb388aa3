package mpe_test

import (
	"testing"

	"clarion/api"
	"clarion/mpe"
)

// P10.2: times that may be: only the times and the check sum are other ones.
func TestWith(t *testing.T) {
	for n, p := range samples()[:20] {
		text := slowBytes(p)
		for _, x := range timesThatMayBe() {
			q := p
			q.Times = x
			if got := with(text, x); got != (bytesOf{text: slowBytes(q)}) {
				t.Fatalf("%d, %+v: %d bytes %.20q, %v", n, x, len(got.text), got.text, got.e)
			}
		}
	}
}

// P10.2: by hand, each of the four fields alone.
func TestWithByHand(t *testing.T) {
	d := gram4(5, "hi")
	for _, c := range []struct {
		had, want string
		x         api.Times
	}{
		{"\x00\x00\x00\x00", "\x00\x50\x00\x00", api.Times{Delta: 5}},
		{"\x00\x00\x00\x00", "\x00\x08\x00\x00", api.Times{Table: true}},
		{"\x00\x00\x00\x00", "\x00\x04\x00\x00", api.Times{Frame: true}},
		{"\x00\x00\x00\x00", "\x00\x00\x00\x03", api.Times{At: 3}},
		{"\xff\xff\xff\xff", "\x00\x00\x00\x00", api.Times{}},
		{"\x00\x00\x00\x00", "\xff\xff\xff\xff", allSet()},
		{"\x00\x58\x00\x03", "\x00\x68\x00\x03", api.Times{Delta: 6, Table: true, At: 3}},
	} {
		if got := with(good(c.had+d).bytes(), c.x); got != (bytesOf{text: good(c.want + d).bytes()}) {
			t.Errorf("%q, %+v: %q, %v", c.had, c.x, got.text, got.e)
		}
	}
}

// P10.2: times that may not be; beside the error nothing is answered (R1).
func TestWithOfTimesThatMayNotBe(t *testing.T) {
	for _, p := range samples()[:4] {
		for _, x := range timesThatMayNotBe() {
			if got := with(slowBytes(p), x); got != (bytesOf{e: api.ErrRange}) {
				t.Errorf("%s, %+v: %d bytes, %v", short(p), x, len(got.text), got.e)
			}
		}
	}
}

// wrong is bytes that Decode has an error for, each of its errors among them.
func wrong() map[string]api.Errno {
	text := good(body()).bytes()
	out := map[string]api.Errno{
		"": api.ErrShort, "\x3e": api.ErrShort, text[:len(text)-1]: api.ErrShort, text + "x": api.ErrLong, put(text, 1, 0x30): api.ErrForm,
		put(text, 9, 1): api.ErrSum, again(put(text, 6, 1)): api.ErrForm, again(put(text, 0, 0x3f)): api.ErrKind, again(put(text, 5, 0xc0)): api.ErrForm,
		again(put(text, 1, 0xf0)): api.ErrForm, good("").bytes(): api.ErrShort, good("\x00\x00\x00").bytes(): api.ErrShort,
	}
	for d, e := range noGrams() {
		out[good("\x00\x00\x00\x00"+d).bytes()] = e
	}
	return out
}

// P10.2: bytes that Decode has an error for, with times that may be and that may not: Decode's is named first (R1).
func TestWithOfNoParts(t *testing.T) {
	for text, e := range wrong() {
		tells(t, "none", text, told{e: e})
		for _, x := range []api.Times{{}, allSet(), {Delta: 5}, {Delta: 4096}, {Delta: -1}, {At: 262144}, {At: -1}} {
			if got := with(text, x); got != (bytesOf{e: e}) {
				t.Errorf("%.20q, %+v: %d bytes, %v, not %v", text, x, len(got.text), got.e, e)
			}
		}
	}
}

// P10.2: any sections and times, by the words.
func TestWithOfAny(t *testing.T) {
	s := noise(13)
	seen := map[api.Errno]int{}
	for range 10000 {
		text, x := s.any(), s.times()
		if s.below(4) == 0 {
			x.Delta += 4096 * (s.below(3) - 1)
			x.At += 262144 * (s.below(3) - 1)
		}
		want := slowWith(text, x)
		if got := with(text, x); got != want {
			t.Fatalf("%q, %+v: %q, %v, not %q, %v", text, x, got.text, got.e, want.text, want.e)
		}
		seen[want.e]++
	}
	if seen[api.OK] < 500 || seen[api.ErrRange] < 100 || seen[api.ErrSum] < 500 {
		t.Error("too few of a kind:", seen)
	}
}

// P10.3: what it tells of a datagram is turned by none: to whom it goes, and its text, are as they were, whatever times come one behind the other.
func TestWithTurnsNoDatagram(t *testing.T) {
	s := noise(15)
	for _, p := range samples() {
		text := slowBytes(p)
		for range 5 {
			x := s.times()
			next, e := mpe.With(text, x)
			if e != api.OK {
				t.Fatal(short(p), e)
			}
			p.Times = x
			tells(t, "with", next, told{p: p})
			text = next
		}
	}
}
