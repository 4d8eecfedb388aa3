package mend_test

import (
	"math"
	"slices"
	"testing"

	"clarion/api"
	"clarion/gf"
	"clarion/mend"
	"clarion/poly"
)

// The calls as the chapter lists them: with another signature this file does not build.
var (
	_ func(string, []int) (string, []int, api.Errno) = mend.Word
	_ func(string, []int) (string, api.Errno)        = mend.Data
	_ func(int) int                                  = mend.Room
	_ func([]int) (string, api.Errno)                = mend.Locator
)

// P4.1
func TestRoom(t *testing.T) {
	for lost, want := range map[int]int{-1: -1, 0: 32, 1: 31, 2: 31, 3: 30, 61: 1, 62: 1, 63: 0, 64: 0, 65: -1, 66: -1, 255: -1, math.MaxInt: -1, math.MinInt: -1} {
		if got := mend.Room(lost); got != want {
			t.Errorf("Room(%d): %d, not %d", lost, got, want)
		}
	}
	for lost := -70; lost <= 140; lost++ {
		if got, want := mend.Room(lost), slowRoom(lost); got != want {
			t.Errorf("Room(%d): %d, not %d", lost, got, want)
		}
	}
}

// P4.1: of none, of one, of more, in any order.
func TestLocator(t *testing.T) {
	for _, c := range []struct {
		at   []int
		want string
	}{
		{nil, "\x01"}, {[]int{}, "\x01"},
		{[]int{254}, "\x01\x01"}, {[]int{253}, "\x01\x02"}, {[]int{246}, "\x01\x1d"}, {[]int{0}, "\x01\x8e"},
		{[]int{254, 253}, "\x01\x03\x02"}, {[]int{253, 254}, "\x01\x03\x02"}, {[]int{0, 253}, "\x01\x8c\x01"},
	} {
		if got, e := mend.Locator(c.at); got != c.want || e != api.OK {
			t.Errorf("Locator(%v): %q, %d, not %q", c.at, got, int(e), c.want)
		}
	}
	s := noise(3)
	for _, n := range []int{1, 2, 3, 31, 32, 33, 63, 64, 65, 66, 128, 254, 255} {
		for _, at := range [][]int{row(0, n), row(255-n, n), s.places(n), s.places(n)} {
			if got, e := mend.Locator(at); got != slowLocator(at) || e != api.OK {
				t.Errorf("Locator(%v): %q, %d", at, got, int(e))
			}
		}
	}
}

// P4.1: it is 0 at the inverses of 2 to the places' powers, and nowhere else.
func TestZerosOfTheLocator(t *testing.T) {
	s := noise(5)
	for _, n := range []int{0, 1, 2, 40, 64, 65} {
		at := s.places(n)
		p, e := mend.Locator(at)
		if e != api.OK || len(p) != n+1 || poly.At(p, 0) != 1 {
			t.Fatal(n, len(p), int(e))
		}
		for i := range 255 {
			if v := poly.At(p, gf.Exp(i-254)); (v == 0) != slices.Contains(at, i) {
				t.Errorf("%d of %v: %d", i, at, v)
			}
		}
	}
}

// wrong is lists that have what is no place, or one twice.
func wrong() [][]int {
	s := noise(7)
	out := [][]int{{-1}, {255}, {256}, {math.MaxInt}, {math.MinInt}, {-255}, {0, -1}, {254, 255}, {0, 0}, {254, 254}, {9, 8, 9}, {100, 100, 100}, {3, 3, -1}}
	for _, n := range []int{63, 64, 65, 100, 255} {
		at := s.places(n)
		out = append(out, append(slices.Clone(at), at[0]), append(slices.Clone(at), at[n-1]), append([]int{255}, at...), append(slices.Clone(at), -1))
	}
	return append(out, make([]int, 5000))
}

// P4.1, P4.2: whatever the text is, more than 64 lost ones not hiding it.
func TestWhatIsNoPlaceOrIsThereTwice(t *testing.T) {
	s := noise(9)
	w := s.word()
	for _, at := range wrong() {
		if got, e := mend.Locator(at); got != "" || e != api.ErrArg {
			t.Errorf("Locator(%v): %q, %d", at, got, int(e))
		}
		for _, text := range []string{w, s.turn(w, row(0, 3)), s.text(255), w[1:], ""} {
			if got := told(text, at); !got.fails(api.ErrArg) {
				t.Errorf("Word, %v: %v", at, got)
			}
			if got, e := mend.Data(text, at); got != "" || e != api.ErrArg {
				t.Errorf("Data, %v: %q, %d", at, got, int(e))
			}
		}
	}
}

// P4.1, P4.2: the first place and the last one are places.
func TestPlacesAtTheEnds(t *testing.T) {
	s := noise(11)
	w := s.word()
	for _, lost := range [][]int{nil, {}, {0}, {254}, {0, 254}, {254, 0}} {
		text := s.turn(w, lost)
		if got := told(text, lost); !got.is(w, differ(text, w)) {
			t.Errorf("Word, %v: %v, %d", lost, got.at, int(got.e))
		}
		if got, e := mend.Data(text, lost); got != w[:191] || e != api.OK {
			t.Errorf("Data, %v: %q, %d", lost, got, int(e))
		}
	}
}

// P4.2: texts of another length, words among them that a byte was taken off or put to; ErrArg is told ahead of ErrMend.
func TestTextsOfOtherLengths(t *testing.T) {
	s := noise(13)
	w := s.word()
	texts := []string{w[:254], w[1:], w + "\x00", "\x00" + w, w + w, nulls(254), nulls(256)}
	for _, long := range []int{0, 1, 64, 191, 254, 256, 510, 5000} {
		texts = append(texts, nulls(long), s.text(long))
	}
	for _, text := range texts {
		for _, lost := range [][]int{nil, {0}, row(0, 64), row(0, 65), row(0, 255)} {
			if got := told(text, lost); !got.fails(api.ErrArg) {
				t.Errorf("Word of %d bytes, %d lost: %v", len(text), len(lost), got)
			}
			if got, e := mend.Data(text, lost); got != "" || e != api.ErrArg {
				t.Errorf("Data of %d bytes, %d lost: %q, %d", len(text), len(lost), got, int(e))
			}
		}
	}
}

// P4.2: even a word is not told, if too many are lost.
func TestMoreThan64Lost(t *testing.T) {
	s := noise(15)
	for _, w := range words() {
		for _, n := range []int{65, 66, 128, 254, 255} {
			for _, lost := range [][]int{row(0, n), row(255-n, n), s.places(n)} {
				for _, text := range []string{w, s.turn(w, lost[:1]), s.turn(w, lost)} {
					if got := told(text, lost); !got.fails(api.ErrMend) {
						t.Fatal(n, got)
					}
					if got, e := mend.Data(text, lost); got != "" || e != api.ErrMend {
						t.Fatal(n, got, int(e))
					}
				}
			}
		}
	}
}

// P4.2: a word itself, whatever is lost of it.
func TestAWordIsItself(t *testing.T) {
	s := noise(17)
	for _, w := range words() {
		for _, lost := range [][]int{nil, {}, {0}, {254}, row(0, 63), row(0, 64), row(191, 64), s.places(20)} {
			if got := told(w, lost); !got.is(w, nil) {
				t.Errorf("%d lost: %v, %d", len(lost), got.at, int(got.e))
			}
			if got, e := mend.Data(w, lost); got != w[:191] || e != api.OK {
				t.Errorf("%d lost: %q, %d", len(lost), got, int(e))
			}
		}
	}
}

// P4.2: one byte, at each place, and each other byte at a place.
func TestOneByteTurned(t *testing.T) {
	s := noise(19)
	w := s.word()
	for i := range 255 {
		text := s.turn(w, []int{i})
		if got := told(text, nil); !got.is(w, []int{i}) {
			t.Fatal(i, got.at, int(got.e))
		}
		if got := told(text, []int{i}); !got.is(w, []int{i}) {
			t.Fatal("lost:", i, got.at, int(got.e))
		}
	}
	for _, i := range []int{0, 190, 191, 254} {
		for c := 1; c < 256; c++ {
			text := []byte(w)
			text[i] ^= byte(c)
			if got := told(string(text), nil); !got.is(w, []int{i}) {
				t.Fatal(i, c, got.at, int(got.e))
			}
		}
	}
}

// P4.2, P4.3: beside each number of lost places, as many turned ones as there is room for; of the lost ones all turned, some, and none.
func TestAsManyTurnedAsThereIsRoom(t *testing.T) {
	s := noise(21)
	for n := range 65 {
		for _, some := range []int{0, n / 2, n} {
			w, at := s.word(), s.places(n+slowRoom(n))
			lost, others := at[:n], at[n:]
			text := s.turn(s.turn(w, others), lost[:some])
			if got := told(text, lost); !got.is(w, differ(text, w)) || len(got.at) != some+len(others) {
				t.Fatal(n, some, got.at, int(got.e))
			}
			if got, e := mend.Data(text, lost); got != w[:191] || e != api.OK {
				t.Fatal(n, some, got, int(e))
			}
		}
	}
}

// P4.2, P4.3: all lost and turned ones in a row at an end, and the parity alone.
func TestPlacesInARow(t *testing.T) {
	s := noise(23)
	for _, w := range words() {
		for _, n := range []int{0, 1, 2, 31, 32, 62, 63, 64} {
			all := n + slowRoom(n)
			for _, from := range []int{0, 95, 191, 255 - all} {
				at := row(from, all)
				text := s.turn(w, at)
				if got := told(text, at[:n]); !got.is(w, at) {
					t.Fatal(n, from, got.at, int(got.e))
				}
				// The lost ones last.
				if got := told(text, at[len(at)-n:]); !got.is(w, at) {
					t.Fatal(n, from, got.at, int(got.e))
				}
			}
		}
	}
}

// P4.2: of an odd number of lost places one more turned than there is room for is near no word: words differ in 65 places, so that it is one too far from each other one, too.
func TestOneMoreThanRoomOfOddNumbers(t *testing.T) {
	s := noise(25)
	for n := 1; n < 64; n += 2 {
		for _, some := range []int{0, n} {
			w, at := s.word(), s.places(n+slowRoom(n)+1)
			text := s.turn(s.turn(w, at[n:]), at[:some])
			if got := told(text, at[:n]); !got.fails(api.ErrMend) {
				t.Error(n, some, got)
			}
			if got, e := mend.Data(text, at[:n]); got != "" || e != api.ErrMend {
				t.Error(n, some, got, int(e))
			}
		}
	}
}

// P4.2: of an even number one more may be near another word, and then it is that one that is answered; else none.
func TestOneMoreThanRoomOfEvenNumbers(t *testing.T) {
	s := noise(27)
	for n := 0; n <= 62; n += 2 {
		w, room := s.word(), slowRoom(n)
		from := s.next() % 191
		other := xor(w, generator(from))
		// Of the 65 bytes by which they differ n are lost, room and 1 are as in the other word, and room as in this one.
		text := []byte(w)
		copy(text[from+n:from+n+room+1], other[from+n:])
		if got := told(string(text), row(from, n)); !got.is(other, differ(string(text), other)) || len(got.at) != n+room {
			t.Error(n, got.at, int(got.e))
		}
		// Anywhere: with little room another word may be near by chance, else none is.
		at := s.places(n + room + 1)
		far := s.turn(w, at)
		want, ok := slowWord(far, at[:n])
		if got := told(far, at[:n]); ok && !got.is(want, differ(far, want)) || !ok && !got.fails(api.ErrMend) {
			t.Error(n, ok, got)
		}
		if ok && n < 50 {
			t.Error("not what the test is for:", n)
		}
	}
}

// P4.2: 64 lost places leave nothing to be told from: what stands there is made up to a word, whatever stands elsewhere.
func Test64LostAreAlwaysNear(t *testing.T) {
	s := noise(29)
	for _, lost := range [][]int{row(0, 64), row(191, 64), s.places(64), s.places(64)} {
		text := s.text(255)
		got := told(text, lost)
		if got.e != api.OK || !slowNear(text, lost, got.word) || !slices.Equal(got.at, differ(text, got.word)) {
			t.Error(lost, got.at, int(got.e))
		}
		for _, i := range got.at {
			if !slices.Contains(lost, i) {
				t.Error("not lost:", i)
			}
		}
		// A place fewer, and there is one value that must fit.
		want, ok := slowWord(text, lost[1:])
		if got := told(text, lost[1:]); ok && !got.is(want, differ(text, want)) || !ok && !got.fails(api.ErrMend) {
			t.Error(ok, got)
		}
	}
}

// P4.2: texts that are near no word.
func TestNearNoWord(t *testing.T) {
	s := noise(33)
	for range 12 {
		text := s.text(255)
		for _, n := range []int{0, 1, 2, 30, 40} {
			lost := s.places(n)
			if _, ok := slowWord(text, lost); ok {
				t.Fatal("not what the test is for:", n)
			}
			if got := told(text, lost); !got.fails(api.ErrMend) {
				t.Error(n, got)
			}
			if got, e := mend.Data(text, lost); got != "" || e != api.ErrMend {
				t.Error(n, got, int(e))
			}
		}
	}
}

// P4.2: in whatever order the lost places are told.
func TestOrderOfLostPlaces(t *testing.T) {
	s := noise(35)
	for _, n := range []int{2, 20, 63, 64} {
		w, at := s.word(), s.places(n+slowRoom(n))
		text, lost := s.turn(w, at), slices.Clone(at[:n])
		want := differ(text, w)
		back := slices.Clone(lost)
		slices.Reverse(back)
		rising := slices.Sorted(slices.Values(lost))
		falling := slices.Clone(rising)
		slices.Reverse(falling)
		for _, l := range [][]int{lost, back, rising, falling} {
			if got := told(text, l); !got.is(w, want) {
				t.Error(l, got.at, int(got.e))
			}
		}
	}
}

// The chapter's examples, as they stand there.
func TestExamples(t *testing.T) {
	if mend.Room(0) != 32 || mend.Room(63) != 0 || mend.Room(64) != 0 || mend.Room(65) != -1 {
		t.Error(mend.Room(0), mend.Room(63), mend.Room(64), mend.Room(65))
	}
	s := noise(37)
	for _, w := range words() {
		if got := told(s.turn(w, []int{9}), nil); !got.is(w, []int{9}) {
			t.Error(got.at, int(got.e))
		}
	}
}
