package mpe_test

import (
	"slices"
	"testing"

	"clarion/api"
	"clarion/mpe"
)

// P10.3: Decode of Encode is the part, Encode of Decode the bytes, and With of what it had, too.
func TestDecodeOfEncodeAndEncodeOfDecode(t *testing.T) {
	s := noise(23)
	l := samples()
	for range 3000 {
		l = append(l, s.part())
	}
	for _, p := range l {
		text, e := mpe.Encode(p)
		if e != api.OK || !mpe.Is(text) {
			t.Fatalf("%s: %d bytes, %v", short(p), len(text), e)
		}
		got := decoded(text)
		if got != (told{p: p}) {
			t.Fatalf("%s: %s, %v", short(p), short(got.p), got.e)
		}
		if back := encoded(got.p); back != (bytesOf{text: text}) {
			t.Fatalf("%s: other bytes, %v", short(p), back.e)
		}
		if back := with(text, p.Times); back != (bytesOf{text: text}) {
			t.Fatalf("%s: With: other bytes, %v", short(p), back.e)
		}
	}
}

// P10.3: all bytes that are decoded are what Encode makes of it: there are no two ways to write a part. And With other times, and then with those that it had, is the bytes again.
func TestEncodeOfWhatIsDecoded(t *testing.T) {
	s := noise(25)
	many := 0
	for range 20000 {
		text := s.any()
		got := decoded(text)
		if got.e != api.OK {
			continue
		}
		many++
		if back := encoded(got.p); back != (bytesOf{text: text}) {
			t.Fatalf("%q: %q, %v", text, back.text, back.e)
		}
		if back := with(text, got.p.Times); back != (bytesOf{text: text}) {
			t.Fatalf("%q: With: %q, %v", text, back.text, back.e)
		}
		other, e := mpe.With(text, s.times())
		if back := with(other, got.p.Times); e != api.OK || back != (bytesOf{text: text}) {
			t.Fatalf("%q: With twice: %q, %v, %v", text, back.text, e, back.e)
		}
	}
	if many < 1000 {
		t.Error("too few:", many)
	}
}

// P10.3: no byte can be turned: each place, each other byte, and the error by the words, of Decode and of With; All tells none of it.
func TestOneOtherByte(t *testing.T) {
	for _, p := range []mpe.Part{{Text: gram4(5, "")}, {Mac: 65535, Times: allSet(), Text: gram4(6, "hi")}, {Mac: 258, Times: api.Times{Delta: 5, At: 3}, Text: gram6("z")}} {
		text := slowBytes(p)
		var l []string
		for at := range len(text) {
			for n := range 256 {
				if n == int(text[at]) {
					continue
				}
				c := put(text, at, n)
				want := slowDecode(c)
				if got := decoded(c); want.e == api.OK || got != want {
					t.Fatalf("%s, byte %d is %d: %+v, not %+v", short(p), at, n, got, want)
				}
				if got := with(c, p.Times); got != (bytesOf{e: want.e}) {
					t.Fatalf("%s, byte %d is %d: With: %+v, not %v", short(p), at, n, got, want.e)
				}
				l = append(l, c)
			}
		}
		finds(t, "turned", nil, l[:5000]...)
	}
}

// P10.3: the same in the greatest ones.
func TestOneOtherByteOfMany(t *testing.T) {
	s := noise(27)
	for _, d := range []string{gram4(5, s.text(300)), gram4(5, s.text(4060)), gram6(s.text(4040))} {
		text := slowBytes(mpe.Part{Mac: 5, Times: s.times(), Text: d})
		for at := range len(text) {
			for _, by := range []int{1, 0x80, 1 + s.below(255)} {
				got := decoded(put(text, at, int(text[at])^by))
				if got.e == api.OK || got.p != (mpe.Part{}) || at > 2 && got.e != api.ErrSum {
					t.Fatalf("%d bytes, byte %d: %v", len(text), at, got.e)
				}
			}
		}
	}
}

// R3: what was asked ahead changes nothing.
func TestAskedAgain(t *testing.T) {
	p := mpe.Part{Mac: 258, Times: api.Times{Delta: 5, At: 3}, Text: gram4(5, "hi")}
	text := slowBytes(p)
	type answers struct {
		b, w bytesOf
		d    told
		e    api.Errno
		is   bool
	}
	ask := func() (answers, []found) {
		return answers{encoded(p), with(text, allSet()), decoded(text), mpe.Check(p), mpe.Is(text)}, all(t, "x", text)
	}
	first, l := ask()
	mpe.Check(mpe.Part{Mac: -1})
	mpe.Encode(mpe.Part{Text: "x"})
	mpe.Decode(text + "x")
	mpe.Decode(good("").bytes())
	mpe.With(text, api.Times{Delta: 4096})
	mpe.With("x", api.Times{})
	mpe.Is("\x3f")
	for range mpe.All(text, text) {
		break
	}
	if got, m := ask(); got != first || !slices.Equal(m, l) || len(l) != 1 {
		t.Errorf("%+v, %v, not %+v, %v", got, m, first, l)
	}
}
