package table_test

import (
	"math"
	"strings"
	"testing"

	"clarion/api"
	"clarion/datagram"
	"clarion/table"
)

// The calls as the chapter lists them: with another signature this file does not build.
var (
	_ func(int) (*table.Table, api.Errno) = table.New
	_ interface {
		Put(int, string) api.Errno
		Parity(int, string) api.Errno
		Pad(int) api.Errno
		At(int) (byte, bool)
		Lost(int) (int, api.Errno)
		Mend() (int, int)
		Out() []table.Placed
		Clear()
	} = (*table.Table)(nil)
	_ = struct {
		At   int
		Text string
	}(table.Placed{})
)

// The chapter's example, as it stands there.
func TestExamples(t *testing.T) {
	x, e := table.New(256)
	if x == nil || e != api.OK {
		t.Fatal(e)
	}
	if e := x.Put(0, datagramOf(300, 'a')); e != api.OK {
		t.Error(e)
	}
	if e := x.Pad(189); e != api.OK {
		t.Error(e)
	}
	for row := range 256 {
		want := counted{n: 64}
		if row >= 44 {
			want.n = 65
		}
		if got := lost(x, row); got != want {
			t.Errorf("%d: %+v, not %+v", row, got, want)
		}
	}
}

// P13.1: New of so many rows as there may be, one less and one more of each, 0, and numbers below.
func TestNew(t *testing.T) {
	may := map[int]bool{256: true, 512: true, 768: true, 1024: true}
	l := []int{0, -1, -255, -256, -257, -512, -1024, 1280, 2048, 1 << 16, 256 + 1<<32, 1<<32 - 256, 512 + 1<<33, math.MinInt, math.MinInt + 256, math.MaxInt, math.MaxInt - 255}
	for rows := range may {
		l = append(l, rows-1, rows, rows+1, rows-2, rows+2, rows/2+1, rows+128)
	}
	for _, rows := range append(l, count(0, 1300)...) {
		x, e := table.New(rows)
		want := api.OK
		if !may[rows] {
			want = api.ErrConfig
		}
		if e != want || (x != nil) != may[rows] {
			t.Errorf("%d: %t, %v", rows, x != nil, e)
		}
	}
}

// P13.1: a new table knows of no byte, and has as many rows as were asked for.
func TestNewKnowsNothing(t *testing.T) {
	for _, rows := range allRows() {
		x, s := both(t, rows)
		tells(t, "new", x, s)
		if lost(x, rows-1) != (counted{n: 255}) || lost(x, rows) != (counted{e: api.ErrRange}) || len(x.Out()) != 0 {
			t.Errorf("%d rows: %+v, %+v, %d", rows, lost(x, rows-1), lost(x, rows), len(x.Out()))
		}
		if got := mends(x); got != (mending{failed: rows}) {
			t.Errorf("%d rows: %+v", rows, got)
		}
		tells(t, "new, mended", x, s)
	}
}

// R1: of a nil table, whatever is asked: ErrNil, nothing, 0.
func TestNilTable(t *testing.T) {
	var x *table.Table
	x.Clear()
	for _, n := range []int{0, 1, -1, 63, 64, 191, 192, 255, 256, 1023, 1024, 191 * 256, 191*1024 + 1, math.MinInt, math.MaxInt} {
		for _, text := range []string{"", "x", datagramOf(20, 0), strings.Repeat("x", 256), strings.Repeat("x", 1<<20)} {
			if e := x.Put(n, text); e != api.ErrNil {
				t.Errorf("Put of %d bytes at %d: %v", len(text), n, e)
			}
			if e := x.Parity(n, text); e != api.ErrNil {
				t.Errorf("Parity %d of %d bytes: %v", n, len(text), e)
			}
		}
		if e := x.Pad(n); e != api.ErrNil {
			t.Errorf("Pad of %d: %v", n, e)
		}
		if got := at(x, n); got != (byteOf{}) {
			t.Errorf("At of %d: %+v", n, got)
		}
		if got := lost(x, n); got != (counted{e: api.ErrNil}) {
			t.Errorf("Lost of %d: %+v", n, got)
		}
	}
	if mends(x) != (mending{}) || len(x.Out()) != 0 {
		t.Errorf("%+v, %v", mends(x), x.Out())
	}
	x.Clear()
}

// beyond is numbers below the first or above the last one that may be, those next to the ends ahead; cut to fewer bits, some would be.
func beyond(last int) []int {
	return []int{-1, last + 1, -2, last + 2, -last, -last - 1, 2*last + 2, 1 << 31, 1 << 32, 1<<32 + 1, 1<<32 + last, -1 << 31, -1 << 32, -1<<32 + last, 1 << 62, math.MinInt, math.MinInt + 1, math.MinInt + last, math.MaxInt, math.MaxInt - last}
}

// P13.1: Parity of no column: -1, 64 and beyond, ErrRange, be there as many bytes as rows or not.
func TestParityOfNoColumn(t *testing.T) {
	for _, rows := range allRows() {
		x, s := both(t, rows)
		for _, n := range append(beyond(63), 64, 191, 254, 255) {
			for _, long := range []int{rows, 0, rows - 1, rows + 1} {
				if e := pars(t, x, s, n, strings.Repeat("p", long)); e != api.ErrRange {
					t.Errorf("the words say %v", e)
				}
			}
		}
		tells(t, "no column", x, s)
	}
}

// P13.1: Parity of other than as many bytes as there are rows: ErrForm, and nothing is known.
func TestParityOfOtherLengths(t *testing.T) {
	for _, rows := range allRows() {
		x, s := both(t, rows)
		for _, n := range []int{0, 1, 62, 63} {
			for _, long := range []int{0, 1, rows - 1, rows + 1, 191, 255, 2 * rows, rows / 2, 256 * rows, 191 * rows} {
				if e := pars(t, x, s, n, strings.Repeat("p", long)); e != api.ErrForm {
					t.Errorf("the words say %v", e)
				}
			}
		}
		tells(t, "other lengths", x, s)
	}
}

// P13.1: each column of parity: one byte more is known of each row, and no byte of data is.
func TestParityOfEachColumn(t *testing.T) {
	noisy := noise(3)
	for _, rows := range allRows() {
		x, s := both(t, rows)
		for k, n := range append([]int{63, 0}, noisy.places(64, 64)...) {
			pars(t, x, s, n, noisy.text(rows))
			if k == 0 && lost(x, 0) != (counted{n: 254}) {
				t.Errorf("%+v", lost(x, 0))
			}
		}
		if lost(x, 0) != (counted{n: 191}) || lost(x, rows-1) != (counted{n: 191}) {
			t.Errorf("%d rows: %+v, %+v", rows, lost(x, 0), lost(x, rows-1))
		}
		tells(t, "each column", x, s)
		mendsBoth(t, "each column", x, s)
	}
}

// P13.1: Parity of a column that is known already: the bytes that came last count, and it is not known twice.
func TestParityTwice(t *testing.T) {
	noisy := noise(5)
	f := noisy.frame(256, 4080)
	lose := make([][]int, 256)
	for row := range lose {
		lose[row] = noisy.places(64, 191)
	}
	for _, n := range []int{0, 63} {
		x, s := both(t, 256)
		f.gives(t, x, s, lose, count(0, 64)...)
		pars(t, x, s, n, noisy.text(256))
		tells(t, "another one", x, s)
		pars(t, x, s, n, f.columns[191+n])
		if got := mendsBoth(t, "twice", x, s); got != (mending{mended: 256}) {
			t.Errorf("the words say %+v", got)
		}
		if got := dataOf(t, x, 256); got != f.data() {
			t.Errorf("%d: other bytes", n)
		}
	}
}

// dataOf is the bytes of data of a table that knows all of them.
func dataOf(t *testing.T, x *table.Table, rows int) string {
	t.Helper()
	b := make([]byte, 191*rows)
	for n := range b {
		got := at(x, n)
		if !got.is {
			t.Fatalf("%d is not known", n)
		}
		b[n] = got.b
	}
	return string(b)
}

// P13.1: Pad of fewer than 0, and of more than 191: ErrRange, and nothing is known.
func TestPadOfNone(t *testing.T) {
	for _, rows := range allRows() {
		x, s := both(t, rows)
		for _, columns := range append(beyond(191), 192, 255, 256, rows) {
			if e := pads(t, x, s, columns); e != api.ErrRange {
				t.Errorf("the words say %v", e)
			}
		}
		tells(t, "none", x, s)
	}
}

// P13.1: Pad of each number of columns: so many last ones are bytes 0, and known; of 0 none.
func TestPadOfEach(t *testing.T) {
	x, s := both(t, 256)
	for columns := range 192 {
		x.Clear()
		s = empty(256)
		if e := pads(t, x, s, columns); e != api.OK {
			t.Errorf("the words say %v", e)
		}
		tells(t, "each", x, s)
		if lost(x, 0) != (counted{n: 255 - columns}) || lost(x, 255) != (counted{n: 255 - columns}) {
			t.Errorf("%d: %+v, %+v", columns, lost(x, 0), lost(x, 255))
		}
	}
	for _, rows := range []int{512, 768, 1024} {
		x, s := both(t, rows)
		for _, columns := range []int{0, 1, 2, 190, 191, 1, 0} {
			if e := pads(t, x, s, columns); e != api.OK {
				t.Errorf("the words say %v", e)
			}
			tells(t, "each", x, s)
		}
	}
}

// P13.1: Pad over columns of which some bytes are known: these stay as they are, the others are bytes 0; columns ahead stay unknown.
func TestPadOverKnownBytes(t *testing.T) {
	noisy := noise(7)
	for _, rows := range allRows() {
		for _, columns := range []int{0, 1, 2, 3, 100, 191} {
			x, s := both(t, rows)
			for range 40 {
				puts(t, x, s, 188*rows+noisy.below(3*rows), "\xff")
				puts(t, x, s, noisy.below(191*rows-50), noisy.text(1+noisy.below(50)))
			}
			puts(t, x, s, 191*rows-2, "yz")
			pars(t, x, s, 0, noisy.text(rows))
			pads(t, x, s, columns)
			tells(t, "over known bytes", x, s)
			if got := at(x, 191*rows-1); got != (byteOf{'z', true}) {
				t.Errorf("%+v", got)
			}
		}
	}
}

// P13.1: padding makes no start: a datagram at the first place of a column, put with a byte ahead of it, is not looked for there.
func TestPadMakesNoStart(t *testing.T) {
	for _, rows := range allRows() {
		for _, columns := range []int{1, 2, 190} {
			x, s := both(t, rows)
			puts(t, x, s, (191-columns)*rows-1, "x"+datagramOf(44, 'd'))
			pads(t, x, s, columns)
			tells(t, "no start", x, s)
			if got := x.Out(); len(got) != 0 {
				t.Errorf("%d rows, %d: %d", rows, columns, len(got))
			}
		}
	}
}

// P13.1: At of -1, of the last place, of one behind it, and beyond; of known bytes that are 0, and of unknown ones.
func TestAt(t *testing.T) {
	for _, rows := range allRows() {
		x, s := both(t, rows)
		last := 191*rows - 1
		puts(t, x, s, 0, "\x00a")
		puts(t, x, s, last-1, "b\x00")
		for n, want := range map[int]byteOf{0: {0, true}, 1: {'a', true}, 2: {}, rows: {}, last - 2: {}, last - 1: {'b', true}, last: {0, true}} {
			if got := at(x, n); got != want {
				t.Errorf("%d rows, %d: %+v, not %+v", rows, n, got, want)
			}
		}
		pads(t, x, s, 191)
		for c := range 64 {
			pars(t, x, s, c, strings.Repeat("p", rows))
		}
		// Nothing that is known is there beyond the data: columns of parity have no place.
		for _, n := range append(beyond(last), -1, last+1, 192*rows-1, 254*rows, 255*rows-1, 255*rows, last+rows) {
			if got := at(x, n); got != (byteOf{}) {
				t.Errorf("%d rows, %d: %+v", rows, n, got)
			}
		}
		tells(t, "at", x, s)
	}
}

// P13.1: Lost of -1, of the row behind the last one, and beyond: ErrRange.
func TestLostOfNoRow(t *testing.T) {
	for _, rows := range allRows() {
		x, s := both(t, rows)
		for _, text := range []string{"", strings.Repeat("x", 191*rows)} {
			puts(t, x, s, 0, text)
			for _, row := range append(beyond(rows-1), -1, rows, 1024, 1280, -rows) {
				if got := lost(x, row); got != (counted{e: api.ErrRange}) {
					t.Errorf("%d rows, %d: %+v", rows, row, got)
				}
			}
		}
		tells(t, "no row", x, s)
	}
}

// P13.1: Lost of the first row and of the last one, of which all, some and none of the bytes are known: one less with each byte.
func TestLost(t *testing.T) {
	noisy := noise(9)
	for _, rows := range allRows() {
		x, s := both(t, rows)
		for k, c := range noisy.places(191, 191) {
			puts(t, x, s, c*rows, noisy.text(1))
			puts(t, x, s, c*rows+rows-1, "\x00")
			for _, row := range []int{0, rows - 1} {
				if got := lost(x, row); got != (counted{n: 254 - k}) {
					t.Errorf("%d rows, row %d, %d known: %+v", rows, row, k+1, got)
				}
			}
		}
		if got := lost(x, 1); got != (counted{n: 255}) {
			t.Errorf("%d rows: %+v", rows, got)
		}
		tells(t, "data", x, s)
		for n := range 64 {
			pars(t, x, s, n, noisy.text(rows))
		}
		for row, want := range map[int]int{0: 0, rows - 1: 0, 1: 191, rows - 2: 191} {
			if got := lost(x, row); got != (counted{n: want}) {
				t.Errorf("%d rows, row %d: %+v, not %d", rows, row, got, want)
			}
		}
		tells(t, "all", x, s)
	}
}

// P13.1: behind Clear no byte is known, there is no start, and what is put then is known as in a new table.
func TestClear(t *testing.T) {
	noisy := noise(11)
	for _, rows := range allRows() {
		f := noisy.frame(rows, 400)
		x, _ := both(t, rows)
		for range 3 {
			x.Clear()
			s := empty(rows)
			tells(t, "clear", x, s)
			for k, p := range f.placed {
				if k%3 != 1 {
					puts(t, x, s, p.At, p.Text)
				}
			}
			pads(t, x, s, f.padding())
			for n := range 64 {
				pars(t, x, s, n, f.columns[191+n])
			}
			tells(t, "behind clear", x, s)
			if rows == 256 {
				x.Mend()
			}
		}
	}
}

// P13.1: a start that was told ahead of Clear is none behind it, though the bytes are known again.
func TestClearTakesStarts(t *testing.T) {
	x, s := both(t, 256)
	d := datagramOf(40, 'd')
	puts(t, x, s, 1000, d)
	if got := x.Out(); len(got) != 1 {
		t.Errorf("%d", len(got))
	}
	x.Clear()
	s = empty(256)
	puts(t, x, s, 999, "x"+d)
	if got := x.Out(); len(got) != 0 {
		t.Errorf("%d", len(got))
	}
	tells(t, "starts", x, s)
}

// The datagrams of the tests are what datagram has for some, and the bytes that are none begin with none.
func TestDatagramsOfTheTests(t *testing.T) {
	noisy := noise(13)
	l := []string{datagramOf(20, 0), datagramOf(4080, 'x'), good4(15, ""), good6(""), good6(strings.Repeat("x", 4040))}
	for range 200 {
		l = append(l, noisy.datagram(4080))
	}
	for _, d := range l {
		if e := datagram.Check(d); e != api.OK || slowFirst(d) != d || slowFirst(d+"x") != d || slowFirst(d[:len(d)-1]) != "" {
			t.Fatalf("%.40q: %v", d, e)
		}
	}
	for name, d := range none() {
		if e := datagram.Check(d); e == api.OK || slowFirst(d) != "" {
			t.Errorf("%s: %v", name, e)
		}
	}
}
