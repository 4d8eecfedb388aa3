package bits_test

import (
	"testing"

	"clarion/api"
	"clarion/bits"
)

// field is a number of so many bits, or a text.
type field struct {
	x    uint64
	n    int
	text string
}

func (f field) write(o *bits.Out) {
	if f.n < 0 {
		o.Text(f.text)
	} else {
		o.Put(f.x, f.n)
	}
}

func (f field) signs() string {
	if f.n < 0 {
		return signsOf(f.text)
	}
	return signs(f.x, f.n)
}

// read is whether the reader has that field next.
func (f field) read(i *bits.In) bool {
	if f.n < 0 {
		return i.Text(len(f.text)) == f.text
	}
	return i.Get(f.n) == number(f.signs())
}

// fields is any ones; those of n below 0 are texts.
func fields(s *noise, many int) []field {
	l := make([]field, many)
	for k := range l {
		if s.below(4) == 0 {
			l[k] = field{n: -1, text: s.text(s.below(40))}
		} else {
			l[k] = field{x: s.next(), n: s.below(65)}
		}
	}
	return l
}

// P6.3: in the fields in which it was written.
func TestReadAsItWasWritten(t *testing.T) {
	s := noise(21)
	for range 1500 {
		l := fields(&s, s.below(40))
		var o bits.Out
		all := ""
		for _, f := range l {
			f.write(&o)
			all += f.signs()
		}
		wrote(t, &o, all)
		i := bits.Read(o.String())
		for k, f := range l {
			if !f.read(i) {
				t.Fatalf("field %d of %d, in %s: another one", k, len(l), all)
			}
		}
		stands(t, i, len(all), (8-len(all)%8)%8, api.OK)
	}
}

// P6.3: in other fields than it was written in; behind it there are bits 0 alone.
func TestReadInOtherFields(t *testing.T) {
	s := noise(23)
	for range 1500 {
		var o bits.Out
		all := ""
		for _, f := range fields(&s, s.below(20)) {
			f.write(&o)
			all += f.signs()
		}
		i, got := bits.Read(o.String()), ""
		for len(got) < len(all) {
			if n := min(s.below(65), len(all)-len(got)); s.below(3) > 0 {
				got += signs(i.Get(n), n)
			} else {
				got += signsOf(i.Text(n / 8))
			}
		}
		if got != all {
			t.Fatalf("%s, not %s", got, all)
		}
		if rest := i.Get(i.Left()); rest != 0 || i.Err() != api.OK || i.Left() != 0 {
			t.Fatal("behind it:", rest, i.Err(), i.Left())
		}
	}
}

// P6.3: the same bits, whatever fields they are written in: bit by bit, in two fields parted at every place, and as a text.
func TestWrittenInOtherFields(t *testing.T) {
	for _, x := range numbers() {
		var whole, single, text bits.Out
		whole.Put(x, 64)
		for k := range 64 {
			single.Put(x>>(63-k), 1)
		}
		text.Text(packed(signs(x, 64)))
		if single.String() != whole.String() || text.String() != whole.String() || single.Len() != 64 || text.Len() != 64 {
			t.Errorf("%#x: %q, %q, %q", x, whole.String(), single.String(), text.String())
		}
		for n := range 65 {
			var o bits.Out
			o.Put(x>>n, 64-n)
			o.Put(x, n)
			if o.String() != whole.String() || o.Len() != 64 {
				t.Errorf("%#x, parted at %d: %q", x, n, o.String())
			}
		}
	}
}

// P6.3: a number of any bits is read again as it is, if it has no more of them.
func TestNumbersAreReadAgain(t *testing.T) {
	for _, x := range numbers() {
		for ahead := range 9 {
			var o bits.Out
			o.Put(1, ahead)
			o.Put(x, 64)
			i := bits.Read(o.String())
			i.Get(ahead)
			if got := i.Get(64); got != x || i.Err() != api.OK {
				t.Errorf("%#x behind %d bits: %#x, %v", x, ahead, got, i.Err())
			}
		}
	}
}

// R3: what was asked of others, or ahead of it, changes nothing.
func TestAskedAgain(t *testing.T) {
	ask := func() string {
		var o bits.Out
		o.Put(5, 3)
		o.Text("clarion")
		i := bits.Read(o.String())
		return o.String() + i.Text(3) + i.Text(2)
	}
	first := ask()
	var o bits.Out
	o.Text("other")
	o.Put(1, 99)
	bits.Read("x").Get(9)
	if again := ask(); again != first {
		t.Errorf("%q, not %q", again, first)
	}
}
