package frame_test

import (
	"slices"
	"strings"
	"testing"

	"clarion/api"
	"clarion/frame"
)

// wrong is bytes that are no datagram, each of datagram.Check's errors among them, for both versions.
func wrong() map[string]api.Errno {
	four, six := good4(5, "body"), good6("body")
	long4, long6 := good4(5, strings.Repeat("x", 4061)), good6(strings.Repeat("x", 4041))
	return map[string]api.Errno{
		"": api.ErrShort, "\x45": api.ErrShort, four[:19]: api.ErrShort, four[:20]: api.ErrShort, four[:23]: api.ErrShort,
		"\x60": api.ErrShort, six[:39]: api.ErrShort, six[:40]: api.ErrShort, six[:43]: api.ErrShort,
		"x": api.ErrKind, "\x00": api.ErrKind, "\x55" + four[1:]: api.ErrKind, nulls(300): api.ErrKind, "\xff" + six[1:]: api.ErrKind,
		"\x44" + four[1:]: api.ErrForm, put(put(four, 2, 0), 3, 19): api.ErrForm, put(put(good4(6, ""), 2, 0), 3, 23): api.ErrForm,
		long4: api.ErrRange, long6: api.ErrRange, long4[:20]: api.ErrRange, long6[:40]: api.ErrRange, put(four, 2, 255): api.ErrRange,
		four + "x": api.ErrLong, four + four: api.ErrLong, six + "\x00": api.ErrLong, four + strings.Repeat("x", 300000): api.ErrLong,
		put(four, 9, 6): api.ErrSum, put(four, 11, int(four[11])^1): api.ErrSum, put(good4(15, ""), 59, 0): api.ErrSum,
	}
}

// P12.1: Add has datagram.Check's error of what is none, and changes nothing (R1); a full frame has it, too, ahead of ErrFull.
func TestAddOfNoDatagrams(t *testing.T) {
	for _, longs := range [][]int{nil, {300}, {20, 256, 21}, {1024}, {1004, 20}} {
		f, s := both(t, 256, 4, 60)
		fills(t, f, s, longs...)
		for d, e := range wrong() {
			if want := adds(t, f, s, d); want.e != e {
				t.Fatalf("the words say %v, not %v", want.e, e)
			}
		}
		tells(t, "wrong", f, s)
	}
}

// leaves fills a frame but for so many bytes.
func leaves(t *testing.T, f *frame.Frame, s *slow, left int) {
	t.Helper()
	long := s.c.Rows*s.c.Columns - left
	for long > 4080 {
		// A rest of fewer than 20 bytes would be no datagram.
		n := min(4080, long-20)
		fills(t, f, s, n)
		long -= n
	}
	if long > 0 {
		fills(t, f, s, long)
	}
}

// P12.1: the first one, if it is as long as the whole frame; of one byte more, and of many, ErrFull.
func TestAddOfTheWholeFrame(t *testing.T) {
	for _, rows := range allRows() {
		for columns := 1; columns < 4080/rows+1; columns++ {
			f, s := both(t, rows, columns, 64)
			for _, long := range []int{rows*columns + 1, rows*columns + 2, rows*(columns+1) - 1, rows * (columns + 1), 4080} {
				if long > 4080 || long == rows*columns {
					continue
				}
				if got := adds(t, f, s, datagramOf(long, 'x')); got != (told{e: api.ErrFull}) {
					t.Errorf("the words say %+v", got)
				}
			}
			fills(t, f, s, rows*columns)
			for _, d := range []string{datagramOf(20, 0), datagramOf(rows*columns, 0), good6("")} {
				if got := adds(t, f, s, d); got != (told{e: api.ErrFull}) {
					t.Errorf("the words say %+v", got)
				}
			}
			if f.Padding() != 191-columns {
				t.Errorf("%+v: %d", s.c, f.Padding())
			}
			tells(t, "whole", f, s)
		}
	}
}

// P12.1: behind others, one that just fits; of one byte more ErrFull, which leaves the frame as it was, so that a shorter one is taken.
func TestAddThatJustFits(t *testing.T) {
	for _, rows := range allRows() {
		for _, columns := range []int{1, 2, 3, 16, 190, 191} {
			for _, left := range []int{20, 21, 44, rows - 1, rows, rows + 1, 4080} {
				if left > 4080 || rows*columns-left < 20 {
					continue
				}
				f, s := both(t, rows, columns, 64)
				leaves(t, f, s, left)
				for _, long := range []int{left + 1, left + 2, left + 40, 4080} {
					if long > 4080 || long == left {
						continue
					}
					if got := adds(t, f, s, datagramOf(long, 'x')); got != (told{e: api.ErrFull}) {
						t.Errorf("the words say %+v", got)
					}
				}
				fills(t, f, s, left)
				if got := adds(t, f, s, datagramOf(20, 'y')); got.e != api.ErrFull || f.Used() != rows*columns || f.Padding() != 191-columns {
					t.Errorf("%+v: %+v, %d, %d", s.c, got, f.Used(), f.Padding())
				}
			}
		}
	}
}

// P12.1: if there is room for fewer bytes than any datagram has, none is taken, but no other error is hidden.
func TestAddOfFewBytesLeft(t *testing.T) {
	for left := range 20 {
		f, s := both(t, 256, 17, 64)
		leaves(t, f, s, left)
		for _, d := range []string{datagramOf(20, 0), datagramOf(21, 'x'), good6(""), datagramOf(4080, 'x')} {
			if got := adds(t, f, s, d); got != (told{e: api.ErrFull}) {
				t.Errorf("the words say %+v", got)
			}
		}
		if got := adds(t, f, s, nulls(left)); got.e == api.OK || got.e == api.ErrFull {
			t.Errorf("the words say %+v", got)
		}
		tells(t, "few bytes left", f, s)
	}
}

// P12.1: ErrFull, again and again, by ones of falling length, till one is taken; then what is behind it.
func TestAddOfShorterOnes(t *testing.T) {
	f, s := both(t, 256, 3, 60)
	fills(t, f, s, 500, 200)
	tells(t, "before", f, s)
	for long := 100; long > 68; long-- {
		if got := adds(t, f, s, datagramOf(long, 'x')); got != (told{e: api.ErrFull}) {
			t.Errorf("%d: the words say %+v", long, got)
		}
	}
	tells(t, "full", f, s)
	fills(t, f, s, 48)
	for long := 40; long > 20; long-- {
		if got := adds(t, f, s, datagramOf(long, 'x')); got != (told{e: api.ErrFull}) {
			t.Errorf("%d: the words say %+v", long, got)
		}
	}
	fills(t, f, s, 20)
	tells(t, "behind", f, s)
	if f.Used() != 768 || f.Padding() != 188 {
		t.Error(f.Used(), f.Padding())
	}
}

// P12.1: datagrams that end at a column's end, one byte ahead of it, and one behind it; where the next one is, and how many columns are left.
func TestAddAtColumnsEnds(t *testing.T) {
	for _, rows := range allRows() {
		for many := 1; many < 4; many++ {
			for by, columns := range map[int]int{-1: many, 0: many, 1: many + 1} {
				f, s := both(t, rows, 191, 60)
				long := rows*many + by
				fills(t, f, s, long)
				if f.Used() != long || f.Padding() != 191-columns {
					t.Errorf("%d of %d rows: used %d, padding %d", long, rows, f.Used(), f.Padding())
				}
				if got := adds(t, f, s, datagramOf(20, 'z')); got != (told{at: long}) {
					t.Errorf("%d of %d rows: the words say %+v", long, rows, got)
				}
				fills(t, f, s, rows, 2*rows, 40)
				tells(t, "column's end", f, s)
			}
		}
	}
}

// P12.1: a datagram over many columns, by hand: it ends in the column that its bytes say.
func TestAddOverManyColumns(t *testing.T) {
	for rows, padding := range map[int]int{256: 175, 512: 183, 768: 185, 1024: 187} {
		f, s := both(t, rows, 191, 60)
		fills(t, f, s, 4080)
		if got := f.Padding(); got != padding {
			t.Errorf("%d rows: %d, not %d", rows, got, padding)
		}
		tells(t, "one", f, s)
		fills(t, f, s, 4080, 4079, 4080)
		tells(t, "four", f, s)
	}
}

// P12.1: each Padding, from 191 to 0: of columns that are just full, and of one byte more, in a column's first row.
func TestEachPadding(t *testing.T) {
	for _, rows := range allRows() {
		full, fullToo := both(t, rows, 191, 64)
		more, moreToo := both(t, rows, 191, 64)
		for n := range 191 {
			if full.Padding() != 191-n || full.Used() != rows*n {
				t.Errorf("%d rows, %d columns: %d, %d", rows, n, full.Padding(), full.Used())
			}
			if n < 190 {
				fills(t, more, moreToo, rows+1-min(n, 1))
			}
			if n < 190 && (more.Padding() != 189-n || more.Used() != rows*(n+1)+1) {
				t.Errorf("%d rows, %d columns and a byte: %d, %d", rows, n+1, more.Padding(), more.Used())
			}
			fills(t, full, fullToo, rows)
		}
		if full.Padding() != 0 || full.Used() != 191*rows || more.Padding() != 0 || more.Used() != 190*rows+1 {
			t.Errorf("%d rows: %d, %d, %d, %d", rows, full.Padding(), full.Used(), more.Padding(), more.Used())
		}
	}
}

// P12.1: of the shortest datagrams, one by one: Used and Padding at each of their ends, till no more is taken.
func TestUsedAndPaddingOfShortOnes(t *testing.T) {
	f, s := both(t, 256, 4, 64)
	for n := range 51 {
		if f.Used() != 20*n || f.Padding() != 191-(20*n+255)/256 {
			t.Errorf("%d: %d, %d", n, f.Used(), f.Padding())
		}
		fills(t, f, s, 20)
	}
	if got := adds(t, f, s, datagramOf(20, 0)); got.e != api.ErrFull || f.Used() != 1020 || f.Padding() != 187 {
		t.Errorf("%+v, %d, %d", got, f.Used(), f.Padding())
	}
}

// P12.1: bytes 0 that a datagram has count as its own: in Used, in Padding, and in Placed.
func TestDatagramsOfBytes0(t *testing.T) {
	f, s := both(t, 256, 191, 60)
	for _, long := range []int{20 + 236, 21, 512, 4080, 24} {
		if got := adds(t, f, s, datagramOf(long, 0)); got.e != api.OK {
			t.Fatal(got)
		}
	}
	if f.Used() != 4893 || f.Padding() != 171 {
		t.Error(f.Used(), f.Padding())
	}
	tells(t, "bytes 0", f, s)
}

// P12.1: Placed of none, and of some of both versions, in the order in which they came.
func TestPlaced(t *testing.T) {
	f, s := both(t, 512, 191, 60)
	if l := f.Placed(); len(l) != 0 {
		t.Error(l)
	}
	l := []string{good6("abc"), good4(5, ""), good4(15, "body"), good6(""), good4(5, ""), good4(5, ""), datagramOf(4080, 'x'), good6("abc")}
	ats := []int{0, 43, 63, 127, 167, 187, 207, 4287}
	for n, d := range l {
		adds(t, f, s, d)
		if got := f.Placed(); len(got) != n+1 || got[n] != (frame.Placed{At: ats[n], Text: d}) {
			t.Errorf("%d: %d placed", n, len(got))
		}
	}
	if got := adds(t, f, s, good4(5, "x")+"x"); got.e != api.ErrLong || len(f.Placed()) != len(l) {
		t.Error(got)
	}
	tells(t, "placed", f, s)
}

// P12.1: as many datagrams as a frame may have, each of 20 bytes, all placed.
func TestPlacedOfVeryMany(t *testing.T) {
	f, _ := both(t, 1024, 191, 64)
	d := datagramOf(20, 0)
	for n := range 9779 {
		if got := added(f, d); got != (told{at: 20 * n}) {
			t.Fatalf("%d: %+v", n, got)
		}
	}
	if got := added(f, d); got != (told{e: api.ErrFull}) || f.Used() != 195580 || f.Padding() != 0 {
		t.Errorf("%+v, %d, %d", got, f.Used(), f.Padding())
	}
	l := f.Placed()
	if len(l) != 9779 {
		t.Fatal(len(l))
	}
	for n, p := range l {
		if p != (frame.Placed{At: 20 * n, Text: d}) {
			t.Fatalf("%d: %+v", n, p)
		}
	}
}

// R2: what is done with Placed's answer, and with Parity's, turns nothing in the frame, nor in another answer.
func TestAnswersAreTheCallers(t *testing.T) {
	f, s := both(t, 256, 191, 60)
	fills(t, f, s, 300, 20, 1000)
	first, parity := f.Placed(), f.Parity()
	kept, keptToo := slices.Clone(first), slices.Clone(parity)
	second, secondToo := f.Placed(), f.Parity()
	for n := range first {
		first[n] = frame.Placed{At: 99, Text: "x"}
	}
	_ = append(first[:1], frame.Placed{At: 98})
	clear(parity)
	_ = append(parity[:1], "x")
	if !slices.Equal(second, kept) || !slices.Equal(secondToo, keptToo) {
		t.Error("other answers were turned")
	}
	tells(t, "turned", f, s)
	fills(t, f, s, 30)
	if !slices.Equal(second, kept) || !slices.Equal(secondToo, keptToo) {
		t.Error("what is added turned an answer")
	}
	f.Clear()
	if !slices.Equal(second, kept) || !slices.Equal(secondToo, keptToo) {
		t.Error("Clear turned an answer")
	}
}

// P12.1: behind Clear the frame is without datagrams, its columns are bytes 0, and it takes others from the place 0 on: shorter and longer ones, till it is full again.
func TestClear(t *testing.T) {
	for _, rows := range allRows() {
		f, s := both(t, rows, 3, 62)
		for _, longs := range [][]int{nil, {3 * rows}, {20}, {rows + 1, 2*rows - 1}, {rows}, {3*rows - 1}, nil, nil, {20, 20, 3*rows - 40}} {
			fills(t, f, s, longs...)
			f.Clear()
			s.l = nil
			if f.Used() != 0 || f.Padding() != 191 || len(f.Placed()) != 0 {
				t.Errorf("%d rows: %d, %d, %d", rows, f.Used(), f.Padding(), len(f.Placed()))
			}
			tells(t, "clear", f, s)
		}
		fills(t, f, s, 30, 2*rows)
		if got := adds(t, f, s, datagramOf(rows-29, 'x')); got.e != api.ErrFull {
			t.Errorf("the words say %+v", got)
		}
		fills(t, f, s, rows-30)
		tellsAll(t, "behind clear", f, s)
	}
}

// P12.1: a frame that is cleared is still as it was made: so many Rows, Columns and Cut.
func TestClearKeepsHowItIs(t *testing.T) {
	n := noise(7)
	for range 12 {
		c := n.config()
		f, s := both(t, c.Rows, c.Columns, c.Cut)
		for range 3 {
			adds(t, f, s, n.datagram(min(4080, c.Rows*c.Columns)))
		}
		f.Clear()
		s.l = nil
		leaves(t, f, s, 0)
		if got := adds(t, f, s, datagramOf(20, 0)); got.e != api.ErrFull {
			t.Errorf("%+v: the words say %+v", c, got)
		}
		tells(t, "cleared", f, s)
	}
}
