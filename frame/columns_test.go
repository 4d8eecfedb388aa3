package frame_test

import (
	"math"
	"slices"
	"testing"

	"clarion/api"
)

// P12.2: Column of what is no column: of frames without datagrams, with some, and that are full.
func TestColumnsThatAreNone(t *testing.T) {
	for _, rows := range allRows() {
		f, s := both(t, rows, 2, 0)
		for _, longs := range [][]int{nil, {300}, {2*rows - 300}} {
			fills(t, f, s, longs...)
			for _, n := range append(outside(0, 254), -1, 255, 256, rows, math.MinInt+190, math.MinInt+191) {
				if n >= 0 && n < 255 {
					continue
				}
				if got := column(f, n); got != (textOf{e: api.ErrRange}) {
					t.Errorf("%d rows, %d: %d bytes, %v", rows, n, len(got.text), got.e)
				}
			}
			tells(t, "none", f, s)
		}
	}
}

// P12.2: by hand: two datagrams over two columns, and bytes 0 behind them.
func TestColumnsByHand(t *testing.T) {
	f, _ := both(t, 256, 191, 0)
	a, b := datagramOf(256+44, 'a'), good6("body")
	for _, d := range []string{a, b} {
		if _, e := f.Add(d); e != api.OK {
			t.Fatal(e)
		}
	}
	for n, want := range map[int]string{0: a[:256], 1: a[256:] + b + nulls(256-88), 2: nulls(256), 100: nulls(256), 190: nulls(256)} {
		if got := column(f, n); got != (textOf{text: want}) {
			t.Errorf("%d: %q, %v", n, got.text, got.e)
		}
	}
	// The row 87 has the last byte of b; from the next one on there is but a's.
	last, next := slowParity("ay"+nulls(189)), slowParity("a"+nulls(190))
	for _, n := range []int{191, 192, 222, 253, 254} {
		c := column(f, n)
		if c.e != api.OK || len(c.text) != 256 || c.text[87] != last[n-191] || c.text[88] != next[n-191] || c.text[255] != next[n-191] {
			t.Errorf("%d: %d bytes, %v", n, len(c.text), c.e)
		}
	}
}

// P12.2: 0, 190, 191 and 254, and those next to them, of each Rows, of none, of one datagram, of one byte in the last column, and of a full frame.
func TestColumnsAtTheEnds(t *testing.T) {
	for _, rows := range allRows() {
		f, s := both(t, rows, 191, 63)
		for _, left := range []int{191 * rows, rows - 1, 0} {
			f.Clear()
			s.l = nil
			leaves(t, f, s, left)
			all := s.columns()
			for _, n := range []int{0, 1, 189, 190, 191, 254} {
				if got := column(f, n); got != (textOf{text: all[n]}) {
					t.Errorf("%d rows, %d left, column %d: %d bytes %.12q, %v", rows, left, n, len(got.text), got.text, got.e)
				}
			}
		}
	}
}

// P12.2: all columns of a frame, data and parity, whether they are sent or not.
func TestAllColumns(t *testing.T) {
	n := noise(11)
	for _, cut := range []int{0, 64} {
		f, s := both(t, 256, 191, cut)
		for range 30 {
			adds(t, f, s, n.datagram(4080))
		}
		var parity []int
		for c := 191; c < 255; c++ {
			parity = append(parity, c)
		}
		tellsAll(t, "all", f, s, parity...)
	}
}

// P12.2: without datagrams all columns are bytes 0, parity too.
func TestColumnsOfNoDatagrams(t *testing.T) {
	for _, rows := range allRows() {
		f, s := both(t, rows, 1, 0)
		for _, n := range []int{0, 1, 95, 190, 191, 222, 254} {
			if got := column(f, n); got != (textOf{text: nulls(rows)}) {
				t.Errorf("%d rows, %d: %d bytes, %v", rows, n, len(got.text), got.e)
			}
		}
		tellsAll(t, "none", f, s)
	}
}

// P12.2: padding columns are bytes 0, behind any number of datagrams: as many as Padding says, and no more than these behind the last byte.
func TestPaddingColumns(t *testing.T) {
	n := noise(13)
	for _, rows := range allRows() {
		f, s := both(t, rows, 100, 64)
		for range 20 {
			adds(t, f, s, n.datagram(4080))
			last := 190 - f.Padding()
			for c := last + 1; c < 191; c++ {
				if got := column(f, c); got != (textOf{text: nulls(rows)}) {
					t.Fatalf("%d rows, column %d: %v", rows, c, got.e)
				}
			}
			if at := f.Used() - 1; at/rows != last {
				t.Errorf("%d rows: the last byte is at %d, not in the column %d", rows, at, last)
			}
		}
	}
}

// P12.2: Parity of each Cut: so many columns, from 191 on.
func TestParityOfCuts(t *testing.T) {
	var all []string
	for cut := range 65 {
		f, s := both(t, 256, 3, cut)
		fills(t, f, s, 300, 200)
		got := f.Parity()
		if len(got) != 64-cut {
			t.Errorf("cut %d: %d", cut, len(got))
		}
		if cut == 0 {
			all = got
		}
		if !slices.Equal(got, all[:64-cut]) || !slices.Equal(got, s.columns()[191:255-cut]) {
			t.Errorf("cut %d: other columns", cut)
		}
	}
}

// P12.2: Parity of Cut 0, 1, 63 and 64, of each Rows, in a full frame; what is cut is still a column.
func TestParityAtTheEnds(t *testing.T) {
	for _, rows := range allRows() {
		for cut, many := range map[int]int{0: 64, 1: 63, 63: 1, 64: 0} {
			f, s := both(t, rows, 4, cut)
			leaves(t, f, s, 0)
			got, all := f.Parity(), s.columns()
			if len(got) != many || !slices.Equal(got, all[191:191+many]) {
				t.Errorf("%d rows, cut %d: %d", rows, cut, len(got))
			}
			if c := column(f, 254); c != (textOf{text: all[254]}) {
				t.Errorf("%d rows, cut %d: %v", rows, cut, c.e)
			}
		}
	}
}

// P12.2: Row of what is no row: -1, Rows, and beyond, of each Rows.
func TestRowsThatAreNone(t *testing.T) {
	for _, rows := range allRows() {
		f, s := both(t, rows, 2, 0)
		for _, longs := range [][]int{nil, {300}, {2*rows - 300}} {
			fills(t, f, s, longs...)
			for _, n := range append(outside(0, rows-1), -1, rows, rows+1, 1024, 1280, -rows, math.MinInt+rows) {
				if n >= 0 && n < rows {
					continue
				}
				if got := row(f, n); got != (textOf{e: api.ErrRange}) {
					t.Errorf("%d rows, %d: %d bytes, %v", rows, n, len(got.text), got.e)
				}
			}
		}
	}
}

// P12.2: Row of 0, of Rows less 1, and of some between, by the words, of each Rows.
func TestRowsAtTheEnds(t *testing.T) {
	for _, rows := range allRows() {
		f, s := both(t, rows, 191, 1)
		for _, left := range []int{191 * rows, 190 * rows, rows - 1, 0} {
			f.Clear()
			s.l = nil
			leaves(t, f, s, left)
			all := s.columns()
			for _, n := range []int{0, 1, 44, rows / 2, 255, rows - 2, rows - 1} {
				if got := row(f, n); got != (textOf{text: rowOf(all, n)}) {
					t.Errorf("%d rows, %d left, row %d: %d bytes %.12q, %v", rows, left, n, len(got.text), got.text, got.e)
				}
			}
		}
	}
}

// P12.2: by hand: the rows of two columns, one of which ends in the middle.
func TestRowsByHand(t *testing.T) {
	f, _ := both(t, 512, 2, 0)
	d := datagramOf(600, 'd')
	if got := added(f, d); got != (told{}) {
		t.Fatal(got)
	}
	for n, data := range map[int]string{0: "\x45d", 1: "\x00d", 9: "\x11d", 87: "dd", 88: "d\x00", 511: "d\x00"} {
		data += nulls(189)
		if got := row(f, n); got != (textOf{text: data + slowParity(data)}) {
			t.Errorf("%d: %.4q, %v", n, got.text, got.e)
		}
	}
}

// P12.2: any frames, all rows and all columns that are sent.
func TestAnyFrames(t *testing.T) {
	n := noise(17)
	for range 8 {
		c := n.config()
		f, s := both(t, c.Rows, c.Columns, c.Cut)
		for range n.below(60) {
			adds(t, f, s, n.datagram(20+n.below(4061)|60))
		}
		tellsAll(t, "any", f, s, 191+n.below(64))
	}
}
