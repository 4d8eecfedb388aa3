package frame_test

import (
	"slices"
	"strings"
	"testing"

	"clarion/api"
	"clarion/frame"
	"clarion/rs"
)

// filled is frames of several kinds, with datagrams.
func filled(t *testing.T) []*frame.Frame {
	t.Helper()
	n := noise(19)
	var out []*frame.Frame
	for _, rows := range allRows() {
		for _, left := range []int{2 * rows, rows/2 + 1, 0} {
			f, s := both(t, rows, 2, 60)
			leaves(t, f, s, left)
			out = append(out, f)
		}
		f, s := both(t, rows, 191, 0)
		for range 40 {
			adds(t, f, s, n.datagram(4080))
		}
		out = append(out, f)
	}
	return out
}

// rowsOf is how many rows a frame has: the first one that is none.
func rowsOf(f *frame.Frame) int {
	c, _ := f.Column(0)
	return len(c)
}

// P12.3: a row is what the columns have in it, and its parity is rs.Encode of its data.
func TestRowsAreWhatColumnsHave(t *testing.T) {
	for at, f := range filled(t) {
		var columns []string
		for n := range 191 {
			columns = append(columns, column(f, n).text)
		}
		parity := f.Parity()
		last := column(f, 254).text
		for n := range rowsOf(f) {
			r := row(f, n)
			behind, e := rs.Encode(rowOf(columns, n))
			if r.e != api.OK || e != api.OK || r.text != rowOf(columns, n)+behind || !rs.Is(r.text) {
				t.Fatalf("%d, row %d: %d bytes, %v, %v", at, n, len(r.text), r.e, e)
			}
			if rowOf(parity, n) != behind[:len(parity)] || last[n] != behind[63] {
				t.Fatalf("%d, row %d: other parity", at, n)
			}
		}
	}
}

// P12.3: columns one behind the other begin with the datagrams, one behind the other, and are bytes 0 behind them.
func TestColumnsBeginWithTheDatagrams(t *testing.T) {
	for at, f := range filled(t) {
		var all, datagrams strings.Builder
		for n := range 191 {
			all.WriteString(column(f, n).text)
		}
		for _, p := range f.Placed() {
			if p.At != datagrams.Len() {
				t.Errorf("%d: %d, not %d", at, p.At, datagrams.Len())
			}
			datagrams.WriteString(p.Text)
		}
		if want := datagrams.String() + nulls(191*rowsOf(f)-f.Used()); all.String() != want || f.Used() != datagrams.Len() {
			t.Errorf("%d: used %d, not %d, or other bytes", at, f.Used(), datagrams.Len())
		}
	}
}

// same tells whether two frames have the same answers.
func same(f, g *frame.Frame) bool {
	if f.Used() != g.Used() || f.Padding() != g.Padding() || !slices.Equal(f.Placed(), g.Placed()) || !slices.Equal(f.Parity(), g.Parity()) {
		return false
	}
	for n := -1; n < 191; n++ {
		if column(f, n) != column(g, n) {
			return false
		}
	}
	for _, n := range []int{-1, 0, 1, 77, 255, 256, 1023, 1024} {
		if row(f, n) != row(g, n) {
			return false
		}
	}
	return true
}

// P12.3: it does not count how datagrams were added: with wrong ones and too long ones between, behind Clear, and with all asked between.
func TestHowTheyWereAdded(t *testing.T) {
	n := noise(23)
	for _, rows := range allRows() {
		f, s := both(t, rows, 30, 40)
		g, _ := both(t, rows, 30, 40)
		for range 5 {
			g.Add(n.datagram(4080))
		}
		g.Clear()
		for range 3 {
			d := n.datagram(min(4080, 3*rows))
			adds(t, f, s, d)
			for bad := range wrong() {
				g.Add(bad)
			}
			g.Parity()
			g.Column(254)
			g.Column(0)
			g.Row(3)
			g.Row(-1)
			g.Column(255)
			g.Placed()
			g.Used()
			g.Padding()
			if got := added(g, d); got.e != api.OK {
				t.Fatal(got)
			}
			if !same(f, g) {
				t.Errorf("%d rows, %d datagrams: not the same", rows, len(s.l))
			}
		}
	}
}

// P12.3: it counts in what order: the same ones in another order are placed so, and make other columns.
func TestInWhatOrder(t *testing.T) {
	l := []string{datagramOf(300, 'a'), good6("six"), datagramOf(20, 0), datagramOf(257, 'b')}
	seen := map[string]int{}
	var permuted func(head, rest []string)
	permuted = func(head, rest []string) {
		if len(rest) == 0 {
			f, s := both(t, 256, 3, 60)
			for _, d := range head {
				adds(t, f, s, d)
			}
			tells(t, "order", f, s)
			seen[column(f, 0).text+column(f, 1).text+column(f, 2).text]++
			return
		}
		for n := range rest {
			permuted(append(slices.Clone(head), rest[n]), slices.Delete(slices.Clone(rest), n, n+1))
		}
	}
	permuted(nil, l)
	if len(seen) != 24 {
		t.Error(len(seen))
	}
}

// P12.2: how many columns datagrams may fill, and how many of parity are sent, is nothing that columns and rows have in them.
func TestColumnsAndCutTurnNoByte(t *testing.T) {
	f, s := both(t, 256, 191, 0)
	fills(t, f, s, 300, 20, 400)
	for _, columns := range []int{3, 4, 190} {
		for _, cut := range []int{1, 63, 64} {
			g, too := both(t, 256, columns, cut)
			fills(t, g, too, 300, 20, 400)
			for _, n := range []int{0, 1, 2, 3, 190, 191, 192, 253, 254} {
				if column(f, n) != column(g, n) {
					t.Errorf("%d, %d: another column %d", columns, cut, n)
				}
			}
			for n := range 256 {
				if row(f, n) != row(g, n) {
					t.Errorf("%d, %d: another row %d", columns, cut, n)
				}
			}
		}
	}
}

// R3: two frames at once have nothing of one another.
func TestTwoFrames(t *testing.T) {
	f, s := both(t, 256, 20, 62)
	g, too := both(t, 768, 5, 63)
	n := noise(29)
	for k := range 12 {
		adds(t, f, s, n.datagram(600))
		adds(t, g, too, n.datagram(600))
		if k == 6 {
			f.Clear()
			s.l = nil
		}
	}
	tells(t, "first", f, s)
	tells(t, "second", g, too)
}

// R3: what is asked again is answered again; asking changes nothing.
func TestAskedAgain(t *testing.T) {
	f, s := both(t, 512, 10, 32)
	fills(t, f, s, 300, 700, 21)
	for range 2 {
		tellsAll(t, "asked", f, s, 191, 254)
	}
}
