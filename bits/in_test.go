package bits_test

import (
	"math"
	"strings"
	"testing"

	"clarion/api"
	"clarion/bits"
)

// P6.2: a reader stands at the first bit, each one for itself.
func TestRead(t *testing.T) {
	for _, s := range []string{"", "a", "abc", strings.Repeat("\xff", 4096)} {
		i, other := bits.Read(s), bits.Read(s)
		if i == nil || i == other {
			t.Fatal("not two readers")
		}
		stands(t, i, 0, 8*len(s), api.OK)
		i.Get(1)
		i.Text(-1)
		stands(t, other, 0, 8*len(s), api.OK)
		if other.Text(len(s)) != s {
			t.Errorf("%d bytes: another text", len(s))
		}
	}
}

// P6.2: each number of bits that may be, at each place of a byte.
func TestGet(t *testing.T) {
	s := noise(11)
	for _, text := range []string{strings.Repeat("\x00", 20), strings.Repeat("\xff", 20), strings.Repeat("\x80\x01", 10), s.text(20)} {
		all := signsOf(text)
		for from := range 17 {
			for n := range 65 {
				i := bits.Read(text)
				ahead := i.Get(from)
				if got := i.Get(n); got != number(all[from:from+n]) || ahead != number(all[:from]) {
					t.Fatalf("%q: %d bits at %d: %#x", text, n, from, got)
				}
				stands(t, i, from+n, 160-from-n, api.OK)
			}
		}
	}
}

// P6.2: just as many bits as are left, and one more, whatever was read ahead.
func TestGetAtTheEnd(t *testing.T) {
	for _, text := range []string{"", "\xa5", "\x5a\xff", "12345678"} {
		all := signsOf(text)
		for from := range len(all) + 1 {
			left := len(all) - from
			i := bits.Read(text)
			i.Get(from)
			if got := i.Get(left); got != number(all[from:]) {
				t.Errorf("%q at %d: %#x", text, from, got)
			}
			stands(t, i, len(all), 0, api.OK)
			i = bits.Read(text)
			i.Get(from)
			want := api.ErrShort
			if left == 64 {
				want = api.ErrArg
			}
			if got := i.Get(left + 1); got != 0 {
				t.Errorf("%q at %d: one more: %#x", text, from, got)
			}
			stands(t, i, from, left, want)
		}
	}
}

// P6.2: nothing is left: no bits may be read, one is missing, and no Text but the empty one is there.
func TestBehindAllBits(t *testing.T) {
	for _, s := range []string{"", "abc"} {
		i := bits.Read(s)
		i.Text(len(s))
		for range 2 {
			if i.Get(0) != 0 || i.Text(0) != "" {
				t.Errorf("%q: something is left", s)
			}
			stands(t, i, 8*len(s), 0, api.OK)
		}
		if i.Get(1) != 0 {
			t.Errorf("%q: a bit is left", s)
		}
		stands(t, i, 8*len(s), 0, api.ErrShort)
	}
	i := bits.Read("")
	if i.Text(1) != "" {
		t.Error("a byte is left")
	}
	stands(t, i, 0, 0, api.ErrShort)
}

// P6.2: numbers of bits that may not be: ErrArg, though there are not so many either (R1: it is named first).
func TestGetOfNumbersOfBitsThatMayNotBe(t *testing.T) {
	for _, s := range []string{"", "abc", strings.Repeat("x", 100)} {
		for _, n := range none() {
			for from := range min(8*len(s), 10) + 1 {
				i := bits.Read(s)
				i.Get(from)
				if got := i.Get(n); got != 0 {
					t.Errorf("Get(%d): %#x", n, got)
				}
				stands(t, i, from, 8*len(s)-from, api.ErrArg)
			}
		}
	}
}

// P6.2: bytes at whole bytes and between them: none, just as many as are left, and one more.
func TestInText(t *testing.T) {
	s := noise(13)
	for _, text := range []string{"", "a", "abc", "\x00\xff\x00", "\xe2\x82\xac\xc3\xa9", s.text(40)} {
		all := signsOf(text)
		for from := range min(len(all), 17) + 1 {
			left := (len(all) - from) / 8
			for n := range left + 1 {
				i := bits.Read(text)
				i.Get(from)
				if got, want := i.Text(n), packed(all[from:from+8*n]); got != want {
					t.Fatalf("%q: %d bytes at %d: %q, not %q", text, n, from, got, want)
				}
				stands(t, i, from+8*n, len(all)-from-8*n, api.OK)
			}
			i := bits.Read(text)
			i.Get(from)
			if got := i.Text(left + 1); got != "" {
				t.Errorf("%q at %d: one more: %q", text, from, got)
			}
			stands(t, i, from, len(all)-from, api.ErrShort)
		}
	}
}

// P6.2: long texts, at whole bytes and between them.
func TestInTextOfLongTexts(t *testing.T) {
	s := noise(15)
	text := s.text(70000)
	i := bits.Read(text)
	if i.Text(69999) != text[:69999] || i.Get(8) != uint64(text[69999]) || i.Err() != api.OK {
		t.Error("at whole bytes:", i.Err())
	}
	i = bits.Read(text)
	i.Get(3)
	if got := i.Text(69999); got != packed(signsOf(text)[3:8*69999+3]) || i.Left() != 5 || i.Err() != api.OK {
		t.Error("between them:", i.Left(), i.Err())
	}
}

// P6.2: below 0, and numbers whose eightfold is no int, at whole bytes and between them.
func TestInTextOfOtherNumbers(t *testing.T) {
	for _, s := range []string{"", "abc", strings.Repeat("x", 100)} {
		for from := range min(8*len(s), 10) + 1 {
			for _, n := range []int{-1, -2, -8, -1 << 60, -1 << 61, -1<<61 + 1, math.MinInt, math.MinInt + 1} {
				i := bits.Read(s)
				i.Get(from)
				if got := i.Text(n); got != "" {
					t.Errorf("Text(%d): %q", n, got)
				}
				stands(t, i, from, 8*len(s)-from, api.ErrArg)
			}
			for _, n := range huge() {
				i := bits.Read(s)
				i.Get(from)
				if got := i.Text(n); got != "" {
					t.Errorf("Text(%d): %q", n, got)
				}
				stands(t, i, from, 8*len(s)-from, api.ErrShort)
			}
		}
	}
}

// P6.2: what is wrong first stays, whatever is asked behind it, right or wrong, and the reader does not move.
func TestWhatIsWrongFirstStays(t *testing.T) {
	wrongs := []struct {
		do func(i *bits.In)
		e  api.Errno
	}{
		{func(i *bits.In) { i.Get(-1) }, api.ErrArg},
		{func(i *bits.In) { i.Get(65) }, api.ErrArg},
		{func(i *bits.In) { i.Text(-1) }, api.ErrArg},
		{func(i *bits.In) { i.Get(60) }, api.ErrShort},
		{func(i *bits.In) { i.Text(8) }, api.ErrShort},
		{func(i *bits.In) { i.Text(math.MaxInt) }, api.ErrShort},
	}
	for k, w := range wrongs {
		for _, from := range []int{5, 8, 16, 23} {
			i := bits.Read("abcdefgh")
			i.Get(from)
			w.do(i)
			stands(t, i, from, 64-from, w.e)
			for _, n := range append(none(), 0, 1, 2, 8, 63, 64) {
				if got := i.Get(n); got != 0 {
					t.Errorf("%d: Get(%d): %#x", k, n, got)
				}
				stands(t, i, from, 64-from, w.e)
			}
			for _, n := range append(huge(), -1, 0, 1, 2, 8, math.MinInt) {
				if got := i.Text(n); got != "" {
					t.Errorf("%d: Text(%d): %q", k, n, got)
				}
				stands(t, i, from, 64-from, w.e)
			}
		}
	}
}

// P6.2: each call of a nil reader.
func TestNilIn(t *testing.T) {
	var i *bits.In
	for _, n := range append(none(), 0, 1, 8, 64) {
		if i.Get(n) != 0 || i.Text(n) != "" {
			t.Error(n, i.Get(n), i.Text(n))
		}
		stands(t, i, 0, 0, api.ErrNil)
	}
}

// R3: a copy of a reader goes on by itself: in what it reads, and in what is wrong.
func TestCopiesOfReadersAreApart(t *testing.T) {
	i := bits.Read("abcd")
	i.Get(4)
	other := *i
	other.Text(1)
	other.Get(99)
	stands(t, &other, 12, 20, api.ErrArg)
	stands(t, i, 4, 28, api.OK)
	if got := i.Text(3); got != packed(signsOf("abcd")[4:28]) {
		t.Errorf("%q", got)
	}
}

// P6.1, P6.2: a row of calls of any kind, right and wrong, held against the chapter's words one by one.
func TestAnyRowOfCalls(t *testing.T) {
	s := noise(17)
	ends := map[api.Errno]int{}
	for range 4000 {
		text := s.text(s.below(30))
		i, want := bits.Read(text), slowRead(text)
		for range 12 {
			n := s.below(20)
			switch s.below(12) {
			case 0:
				n = s.below(70) - 2
			case 1:
				n = -1
			}
			if s.below(2) == 0 {
				if got, x := i.Get(n), want.get(n); got != x {
					t.Fatalf("%q: Get(%d): %#x, not %#x", text, n, got, x)
				}
			} else if got, x := i.Text(n/4), want.text(n/4); got != x {
				t.Fatalf("%q: Text(%d): %q, not %q", text, n/4, got, x)
			}
			stands(t, i, want.at, want.left(), want.e)
		}
		ends[want.e]++
	}
	if ends[api.OK] < 300 || ends[api.ErrArg] < 300 || ends[api.ErrShort] < 300 {
		t.Error("too few of a kind:", ends)
	}
}
