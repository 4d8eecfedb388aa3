package table_test

import (
	"strings"
	"testing"

	"clarion/table"
)

// loses is that the same places are lost in each of so many rows.
func loses(rows int, places []int) [][]int {
	out := make([][]int, rows)
	for n := range out {
		out[n] = places
	}
	return out
}

// P13.2: rows of which none, one, 63, 64, 65, 66 and 255 bytes are lost, all in one table, by numbers, and by the words.
func TestMendOfSoMany(t *testing.T) {
	noisy := noise(23)
	many := []int{0, 1, 2, 63, 64, 65, 66, 100, 190, 191}
	for _, rows := range allRows() {
		f := noisy.frame(rows, 4080)
		lose := make([][]int, rows)
		mended, failed := 0, 0
		for row := range lose {
			n := many[row%len(many)]
			lose[row] = noisy.places(n, 191)
			switch {
			case n > 64:
				failed++
			case n > 0:
				mended++
			}
		}
		x, s := both(t, rows)
		f.gives(t, x, s, lose, count(0, 64)...)
		tells(t, "so many", x, s)
		if got := mendsBoth(t, "so many", x, s); got != (mending{mended, failed}) {
			t.Errorf("%d rows: the words say %+v", rows, got)
		}
		for row := range lose {
			mendedRow(t, f, x, row, len(lose[row]) <= 64)
		}
	}
}

// mendedRow holds a row against the frame that it was: if it is mended, all is known, and as it was; if not, some is not known.
func mendedRow(t *testing.T, f *sent, x *table.Table, row int, is bool) {
	t.Helper()
	if got := lost(x, row); (got == counted{}) != is {
		t.Errorf("%d rows, row %d: %+v", f.rows, row, got)
	}
	for c := range 191 {
		if got, want := at(x, c*f.rows+row), (byteOf{f.columns[c][row], true}); got != want && (is || got != (byteOf{})) {
			t.Fatalf("%d rows, row %d, column %d: %+v, not %+v", f.rows, row, c, got, want)
		}
	}
}

// P13.2: of a table of which nothing is known all rows fail, and stay unknown; of one of which all is known none is mended and none fails, be its rows words or not.
func TestMendOfNothingAndOfAll(t *testing.T) {
	noisy := noise(25)
	for _, rows := range allRows() {
		x, s := both(t, rows)
		if got := mendsBoth(t, "nothing", x, s); got != (mending{failed: rows}) {
			t.Errorf("the words say %+v", got)
		}
		text := noisy.text(191 * rows)
		puts(t, x, s, 0, text)
		for n := range 64 {
			pars(t, x, s, n, noisy.text(rows))
		}
		if got := mendsBoth(t, "all", x, s); got != (mending{}) {
			t.Errorf("the words say %+v", got)
		}
		if dataOf(t, x, rows) != text {
			t.Errorf("%d rows: other bytes", rows)
		}
	}
}

// P13.2: each number of lost bytes, from 0 to 255: those of data first, those of parity first; up to 64 are mended.
func TestMendOfEachNumber(t *testing.T) {
	noisy := noise(27)
	f := noisy.frame(256, 4080)
	for _, parity := range []int{64, 40, 1, 0} {
		x, s := both(t, 256)
		lose := make([][]int, 256)
		mended := 0
		for row := range lose {
			// As many as the row's number are lost, if the columns of parity that are not known do not make it more.
			lose[row] = noisy.places(min(191, max(0, row-(64-parity))), 191)
			if n := len(lose[row]) + 64 - parity; n > 0 && n <= 64 {
				mended++
			}
		}
		f.gives(t, x, s, lose, noisy.places(parity, 64)...)
		if got := mendsBoth(t, "each", x, s); got.mended != mended {
			t.Errorf("%d: the words say %+v, not %d", parity, got, mended)
		}
		for row := range lose {
			mendedRow(t, f, x, row, len(lose[row])+64-parity <= 64)
		}
	}
}

// P13.2: padding alone is lost, up to 64 columns of it; parity alone is lost; and both, 64 columns together, or one more.
func TestMendOfPaddingAndParity(t *testing.T) {
	noisy := noise(29)
	for _, rows := range []int{256, 1024} {
		f := frameOf(rows, datagramOf(4080, 'a'), good6("six"), noisy.datagram(3000))
		for _, padding := range []int{0, 1, 63, 64, 65} {
			for _, parity := range []int{0, 1, 64} {
				if rows > 256 && padding+parity != 64 {
					continue
				}
				x, s := both(t, rows)
				f.gives(t, x, s, loses(rows, count(191-padding, 191)), count(0, 64-parity)...)
				want := mending{mended: rows}
				switch {
				case padding+parity == 0:
					want = mending{}
				case padding+parity > 64:
					want = mending{failed: rows}
				}
				if got := mendsBoth(t, "padding and parity", x, s); got != want {
					t.Errorf("%d, %d: the words say %+v", padding, parity, got)
				}
				for row := range rows {
					mendedRow(t, f, x, row, padding+parity <= 64)
				}
			}
		}
	}
}

// turned puts other bytes at these columns of a row.
func (f *sent) turned(t *testing.T, x *table.Table, s *slow, row int, columns []int) {
	t.Helper()
	for _, c := range columns {
		puts(t, x, s, c*f.rows+row, string([]byte{f.columns[c][row] ^ byte(1+(row+c)%255)}))
	}
}

// P13.2: rows whose known bytes are no word's: beside so many lost ones, as many turned ones as mend has room for come back, too; of one more the row fails, and its bytes stay as they were put.
func TestMendOfTurnedBytes(t *testing.T) {
	noisy := noise(31)
	f := noisy.frame(256, 4080)
	kinds := []struct {
		lost, turned int
		want         mending
	}{
		{1, 1, mending{mended: 1}}, {1, 31, mending{mended: 1}}, {1, 32, mending{failed: 1}}, {2, 31, mending{mended: 1}}, {3, 31, mending{failed: 1}}, {20, 22, mending{mended: 1}}, {21, 22, mending{failed: 1}},
		{61, 1, mending{mended: 1}}, {61, 2, mending{failed: 1}}, {62, 1, mending{mended: 1}}, {63, 1, mending{failed: 1}}, {63, 0, mending{mended: 1}}, {64, 0, mending{mended: 1}}, {65, 1, mending{failed: 1}}, {0, 1, mending{}}, {0, 33, mending{}},
	}
	x, s := both(t, 256)
	lose, turn := make([][]int, 256), make([][]int, 256)
	var want mending
	for row := range lose {
		k := kinds[row%len(kinds)]
		places := noisy.places(k.lost+k.turned, 191)
		lose[row], turn[row] = places[:k.lost], places[k.lost:]
		want.mended += k.want.mended
		want.failed += k.want.failed
	}
	f.gives(t, x, s, lose, count(0, 64)...)
	for row := range lose {
		f.turned(t, x, s, row, turn[row])
	}
	tells(t, "turned", x, s)
	if got := mendsBoth(t, "turned", x, s); got != want {
		t.Errorf("the words say %+v, not %+v", got, want)
	}
	for row := range lose {
		switch k := kinds[row%len(kinds)]; {
		case k.want.mended == 1:
			mendedRow(t, f, x, row, true)
		case lost(x, row) != counted{n: k.lost}:
			t.Errorf("%d: %+v", row, lost(x, row))
		}
	}
}

// P13.2: 64 bytes are lost, and one that is known is turned: the row is mended, as some word's, which holds all known bytes.
func TestMendOfAnotherWord(t *testing.T) {
	noisy := noise(33)
	f := noisy.frame(256, 4080)
	x, s := both(t, 256)
	lose := make([][]int, 256)
	for row := range lose {
		lose[row] = noisy.places(65, 191)
	}
	var kept [256]int
	f.gives(t, x, s, lose, count(0, 64)...)
	for row := range lose {
		kept[row] = lose[row][64]
		f.turned(t, x, s, row, lose[row][64:])
	}
	if got := mendsBoth(t, "another", x, s); got != (mending{mended: 256}) {
		t.Errorf("the words say %+v", got)
	}
	for row, c := range kept {
		if got := at(x, c*256+row); got != (byteOf{f.columns[c][row] ^ byte(1+(row+c)%255), true}) {
			t.Errorf("%d: %+v", row, got)
		}
	}
}

// P13.2: Mend a second time: what was mended is so no more, and what failed fails again, till more is known.
func TestMendAgain(t *testing.T) {
	noisy := noise(35)
	for _, rows := range []int{256, 512} {
		f := noisy.frame(rows, 1000)
		lose := make([][]int, rows)
		for row := range lose {
			lose[row] = noisy.places(40+row%4, 191)
		}
		x, s := both(t, rows)
		f.gives(t, x, s, lose, count(23, 64)...)
		steps := []mending{{mended: rows / 2, failed: rows / 2}, {failed: rows / 2}, {failed: rows / 2}}
		for n, want := range steps {
			if got := mendsBoth(t, "again", x, s); got != want {
				t.Errorf("%d: the words say %+v, not %+v", n, got, want)
			}
		}
		pars(t, x, s, 22, f.columns[191+22])
		for n, want := range []mending{{mended: rows / 4, failed: rows / 4}, {failed: rows / 4}} {
			if got := mendsBoth(t, "one more", x, s); got != want {
				t.Errorf("%d: the words say %+v, not %+v", n, got, want)
			}
		}
		pars(t, x, s, 0, f.columns[191])
		for n, want := range []mending{{mended: rows / 4}, {}} {
			if got := mendsBoth(t, "two more", x, s); got != want {
				t.Errorf("%d: the words say %+v, not %+v", n, got, want)
			}
		}
		if dataOf(t, x, rows) != f.data() {
			t.Errorf("%d rows: other bytes", rows)
		}
	}
}

// P13.2: padding counts as known: of one column fewer than the frame has, one byte too many is lost; of one more, the rows that have a byte there are no words.
func TestMendWithPadding(t *testing.T) {
	for _, rows := range []int{256, 512} {
		f := frameOf(rows, datagramOf(4080, 'x'), datagramOf(4080, 'y'), datagramOf(4080, 'z'), datagramOf(48, 'z'))
		last := 191 - f.padding()
		nulled := strings.Count(f.columns[last-1], "\x00")
		for more, want := range map[int]mending{-1: {failed: rows}, 0: {mended: rows}, 1: {mended: nulled, failed: rows - nulled}} {
			x, s := both(t, rows)
			f.gives(t, x, s, loses(rows, count(last-4, 191)), 3, 7, 20, 63)
			pads(t, x, s, f.padding()+more)
			if got := mendsBoth(t, "padding", x, s); got != want {
				t.Errorf("%d rows, %d: the words say %+v, not %+v", rows, more, got, want)
			}
			if more == 0 && dataOf(t, x, rows) != f.data() {
				t.Errorf("%d rows: other bytes", rows)
			}
		}
	}
}
