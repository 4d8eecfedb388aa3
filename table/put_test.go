package table_test

import (
	"math"
	"strings"
	"testing"

	"clarion/api"
)

// P13.1: Put at -1, at 0, at the last place and one behind it, and beyond.
func TestPutAtTheEnds(t *testing.T) {
	for _, rows := range allRows() {
		x, s := both(t, rows)
		size := 191 * rows
		for n, want := range map[int]api.Errno{-1: api.ErrRange, 0: api.OK, size - 1: api.OK, size: api.ErrRange, size + 1: api.ErrRange} {
			if e := puts(t, x, s, n, "x"); e != want {
				t.Errorf("%d rows, %d: the words say %v", rows, n, e)
			}
		}
		if at(x, 0) != (byteOf{'x', true}) || at(x, size-1) != (byteOf{'x', true}) || lost(x, rows-1) != (counted{n: 254}) {
			t.Errorf("%d rows: %+v, %+v, %+v", rows, at(x, 0), at(x, size-1), lost(x, rows-1))
		}
		for _, n := range append(beyond(size-1), 255*rows-1, math.MaxInt-1, math.MinInt+2) {
			for _, text := range []string{"x", "xy", strings.Repeat("x", 4080), strings.Repeat("x", size+1)} {
				if e := puts(t, x, s, n, text); e != api.ErrRange {
					t.Errorf("the words say %v", e)
				}
			}
		}
		tells(t, "ends", x, s)
	}
}

// P13.1: Put of no bytes: from 0 to the place behind the last one, which makes nothing known, and no start.
func TestPutOfNoBytes(t *testing.T) {
	for _, rows := range allRows() {
		x, s := both(t, rows)
		size := 191 * rows
		for n, want := range map[int]api.Errno{-1: api.ErrRange, 0: api.OK, 1: api.OK, size - 1: api.OK, size: api.OK, size + 1: api.ErrRange, math.MaxInt: api.ErrRange, math.MinInt: api.ErrRange} {
			if e := puts(t, x, s, n, ""); e != want {
				t.Errorf("%d rows, %d: the words say %v", rows, n, e)
			}
		}
		tells(t, "no bytes", x, s)
		// A datagram within bytes that begin with none is told only if its place is a start.
		puts(t, x, s, 600, "x"+datagramOf(40, 'd'))
		puts(t, x, s, 601, "")
		if got := x.Out(); len(got) != 0 {
			t.Errorf("%d rows: %d", rows, len(got))
		}
		tells(t, "no start", x, s)
		puts(t, x, s, 601, "\x45")
		if got := x.Out(); len(got) != 1 || got[0].At != 601 {
			t.Errorf("%d rows: %d", rows, len(got))
		}
		tells(t, "a start", x, s)
	}
}

// P13.1: Put of bytes that end just at the end of the data, and of one more; of all of the data, and of one more.
func TestPutUpToTheEnd(t *testing.T) {
	noisy := noise(15)
	for _, rows := range allRows() {
		size := 191 * rows
		for _, long := range []int{1, 2, 20, rows - 1, rows, rows + 1, 3 * rows, 4080, size - 1, size} {
			x, s := both(t, rows)
			text := noisy.text(long)
			for _, more := range []string{text + "x", text + "xy", text + text} {
				if e := puts(t, x, s, size-long, more); e != api.ErrRange {
					t.Errorf("the words say %v", e)
				}
			}
			if e := puts(t, x, s, size-long+1, text); e != api.ErrRange {
				t.Errorf("the words say %v", e)
			}
			tells(t, "beyond the end", x, s)
			if e := puts(t, x, s, size-long, text); e != api.OK {
				t.Errorf("the words say %v", e)
			}
			tells(t, "up to the end", x, s)
		}
		x, s := both(t, rows)
		puts(t, x, s, 0, noisy.text(size+1))
		tells(t, "too many", x, s)
	}
}

// P13.1: bytes over several columns, by hand: the byte at a place is in the column, and the row, that the chapter says.
func TestPutOverColumns(t *testing.T) {
	for _, rows := range allRows() {
		x, s := both(t, rows)
		puts(t, x, s, 2*rows-2, "ab"+strings.Repeat("c", rows)+"d")
		want := map[int]int{rows - 3: 254, rows - 2: 253, rows - 1: 253, 0: 253, 1: 254}
		for row, n := range want {
			if got := lost(x, row); got != (counted{n: n}) {
				t.Errorf("%d rows, row %d: %+v, not %d", rows, row, got, n)
			}
		}
		for n, b := range map[int]byte{2*rows - 2: 'a', 2*rows - 1: 'b', 2 * rows: 'c', 3*rows - 1: 'c', 3 * rows: 'd'} {
			if got := at(x, n); got != (byteOf{b, true}) {
				t.Errorf("%d rows, %d: %+v", rows, n, got)
			}
		}
		tells(t, "columns", x, s)
	}
}

// P13.1: Put over bytes that are known already: the bytes that came last count, and are not known twice.
func TestPutOverKnownBytes(t *testing.T) {
	noisy := noise(17)
	for _, rows := range allRows() {
		x, s := both(t, rows)
		puts(t, x, s, 100, strings.Repeat("a", 2*rows))
		puts(t, x, s, 200, strings.Repeat("b", rows))
		puts(t, x, s, 50, strings.Repeat("c", 100))
		pads(t, x, s, 2)
		puts(t, x, s, 190*rows-5, noisy.text(10))
		tells(t, "over known bytes", x, s)
		for n, want := range map[int]byteOf{49: {}, 50: {'c', true}, 149: {'c', true}, 150: {'a', true}, 200: {'b', true}, 199 + rows: {'b', true}, 200 + rows: {'a', true}, 100 + 2*rows: {}} {
			if got := at(x, n); got != want {
				t.Errorf("%d rows, %d: %+v, not %+v", rows, n, got, want)
			}
		}
		for range 100 {
			long := noisy.below(3 * rows)
			puts(t, x, s, noisy.below(191*rows-long+1), noisy.text(long))
		}
		tells(t, "any", x, s)
	}
}

// P13.1: Put at the same place twice: the same bytes change nothing, of others the last ones count, be they fewer or more.
func TestPutTwice(t *testing.T) {
	x, s := both(t, 256)
	a, b, c := datagramOf(60, 'a'), good6("bbb"), datagramOf(70, 'c')
	puts(t, x, s, 500, a)
	tells(t, "once", x, s)
	puts(t, x, s, 500, a)
	tells(t, "twice", x, s)
	if got := x.Out(); len(got) != 1 || got[0].Text != a {
		t.Errorf("%d", len(got))
	}
	puts(t, x, s, 500, b)
	tells(t, "fewer", x, s)
	if got := x.Out(); len(got) != 1 || got[0].Text != b {
		t.Errorf("%d", len(got))
	}
	puts(t, x, s, 500, c)
	puts(t, x, s, 500, "")
	tells(t, "more", x, s)
	if got := x.Out(); len(got) != 1 || got[0].Text != c {
		t.Errorf("%d", len(got))
	}
	puts(t, x, s, 500, "x")
	tells(t, "turned", x, s)
	if got := x.Out(); len(got) != 0 {
		t.Errorf("%d", len(got))
	}
}

// P13.1: bytes that are put over what Mend has found count, and those of a row that had failed make it one that is mended.
func TestPutBehindMend(t *testing.T) {
	noisy := noise(19)
	f := noisy.frame(256, 500)
	lose := make([][]int, 256)
	for row := range lose {
		lose[row] = noisy.places(30+row%3*5, 191)
	}
	x, s := both(t, 256)
	f.gives(t, x, s, lose, count(0, 29)...)
	if got := mendsBoth(t, "some", x, s); got != (mending{failed: 256}) {
		t.Errorf("the words say %+v", got)
	}
	for row := 1; row < 256; row += 3 {
		for _, c := range lose[row][:6] {
			puts(t, x, s, c*256+row, f.columns[c][row:row+1])
		}
	}
	if got := mendsBoth(t, "more", x, s); got != (mending{mended: 85, failed: 171}) {
		t.Errorf("the words say %+v", got)
	}
	for row := range 256 {
		puts(t, x, s, lose[row][0]*256+row, noisy.text(1))
	}
	tells(t, "turned", x, s)
}
