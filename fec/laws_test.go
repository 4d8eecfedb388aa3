package fec_test

import (
	"slices"
	"testing"

	"clarion/api"
	"clarion/fec"
)

// P11.4: Decode of Encode is the part, Encode of Decode the bytes, and With of what it had, too.
func TestDecodeOfEncodeAndEncodeOfDecode(t *testing.T) {
	s := noise(23)
	l := samples()
	for range 1000 {
		l = append(l, s.part())
	}
	for _, p := range l {
		text, e := fec.Encode(p)
		if e != api.OK || !fec.Is(text) {
			t.Fatalf("%s: %d bytes, %v", short(p), len(text), e)
		}
		tells(t, "encoded", text, told{p: p})
		if back := encoded(decoded(text).p); back != (bytesOf{text: text}) {
			t.Fatalf("%s: other bytes, %v", short(p), back.e)
		}
		if back := with(text, p.Times); back != (bytesOf{text: text}) {
			t.Fatalf("%s: With: other bytes, %v", short(p), back.e)
		}
	}
}

// P11.4: all bytes that are decoded are what Encode makes of it: there are no two ways to write a part. And With other times, and then with those that it had, is the bytes again.
func TestEncodeOfWhatIsDecoded(t *testing.T) {
	s := noise(25)
	many := 0
	for range 5000 {
		text := s.any()
		got := decoded(text)
		if got.e != api.OK {
			continue
		}
		many++
		if back := encoded(got.p); back != (bytesOf{text: text}) {
			t.Fatalf("%q: %q, %v", text, back.text, back.e)
		}
		if back := with(text, got.p.Times); back != (bytesOf{text: text}) {
			t.Fatalf("%q: With: %q, %v", text, back.text, back.e)
		}
		other := with(text, s.times())
		if back := with(other.text, got.p.Times); back != (bytesOf{text: text}) {
			t.Fatalf("%q: With twice: %q, %v, %v", text, back.text, other.e, back.e)
		}
	}
	if many < 1000 {
		t.Error("too few:", many)
	}
}

// P11.4: Cut and how many there are in Columns are 64 together, of each of them; and each goes as a section, and comes back.
func TestCutOfColumns(t *testing.T) {
	for many := 1; many <= 64; many++ {
		l, e := fec.Columns(64, columns(many, 256)...)
		if e != api.OK || len(l) != many {
			t.Fatal(many, len(l), e)
		}
		for _, p := range l {
			if got := fec.Cut(p); got+len(l) != 64 {
				t.Errorf("%d of %d: %d", p.Number, many, got)
			}
			checks(t, p, api.OK)
			tells(t, "column", encoded(p).text, told{p: p})
		}
	}
}

// P11.4: no byte can be turned: each place, each other byte, and the error by the words, of Decode and of With.
func TestOneOtherByte(t *testing.T) {
	p := fec.Part{Padding: 191, Number: 62, Last: 63, Times: api.Times{Delta: 5, Table: true, At: 3}, Text: columns(1, 256)[0]}
	text := slowBytes(p)
	for at := range len(text) {
		for n := range 256 {
			if n == int(text[at]) {
				continue
			}
			c := put(text, at, n)
			want := slowDecode(c)
			if got := decoded(c); want.e == api.OK || got != want {
				t.Fatalf("byte %d is %d: %s, %v, not %v", at, n, short(got.p), got.e, want.e)
			}
			if got := with(c, p.Times); at < 16 && got != (bytesOf{e: want.e}) {
				t.Fatalf("byte %d is %d: With: %v, not %v", at, n, got.e, want.e)
			}
		}
	}
}

// P11.4: the same in columns of each length, with fewer other bytes.
func TestOneOtherByteOfMany(t *testing.T) {
	s := noise(27)
	for _, p := range samples()[:12] {
		text := slowBytes(p)
		for at := range len(text) {
			for _, by := range []int{1, 0x80, 1 + s.below(255)} {
				got := decoded(put(text, at, int(text[at])^by))
				if got.e == api.OK || got.p != (fec.Part{}) || at > 2 && got.e != api.ErrSum {
					t.Fatalf("%s, byte %d: %v", short(p), at, got.e)
				}
			}
		}
	}
}

// R3: what was asked ahead changes nothing.
func TestAskedAgain(t *testing.T) {
	p := fec.Part{Padding: 2, Number: 1, Last: 3, Times: api.Times{Delta: 5, At: 3}, Text: filled('a', 256)}
	text := slowBytes(p)
	type answers struct {
		b, w bytesOf
		d    told
		e    api.Errno
		is   bool
		cut  int
	}
	ask := func() (answers, []fec.Part) {
		l, e := fec.Columns(2, p.Text, p.Text)
		if e != api.OK {
			t.Error(e)
		}
		return answers{encoded(p), with(text, allSet()), decoded(text), fec.Check(p), fec.Is(text), fec.Cut(p)}, l
	}
	first, l := ask()
	fec.Check(fec.Part{Padding: -1})
	fec.Encode(fec.Part{Text: "x"})
	fec.Decode(text + "x")
	fec.Decode(good("").bytes())
	fec.With(text, api.Times{Delta: 4096})
	fec.With("x", api.Times{})
	fec.Is("\x3e")
	fec.Cut(fec.Part{Last: 9})
	fec.Columns(192, p.Text)
	fec.Columns(5, "x", p.Text)
	if got, m := ask(); got != first || !slices.Equal(m, l) || len(l) != 2 {
		t.Errorf("%v, %v, not %v, %v", got.e, len(m), first.e, len(l))
	}
}
