package frame_test

import (
	"math"
	"strings"
	"testing"

	"clarion/api"
	"clarion/datagram"
	"clarion/frame"
)

// The calls as the chapter lists them: with another signature this file does not build.
var (
	_ func(frame.Config) api.Errno                 = frame.Check
	_ func(frame.Config) (*frame.Frame, api.Errno) = frame.New
	_ interface {
		Add(string) (int, api.Errno)
		Used() int
		Padding() int
		Placed() []frame.Placed
		Column(int) (string, api.Errno)
		Parity() []string
		Row(int) (string, api.Errno)
		Clear()
	} = (*frame.Frame)(nil)
	_ = struct{ Rows, Columns, Cut int }(frame.Config{})
	_ = struct {
		At   int
		Text string
	}(frame.Placed{})
)

// The chapter's example, as it stands there.
func TestExamples(t *testing.T) {
	f, e := frame.New(frame.Config{Rows: 256, Columns: 191})
	if e != api.OK {
		t.Fatal(e)
	}
	first := datagramOf(300, 'a')
	if at, e := f.Add(first); at != 0 || e != api.OK || f.Padding() != 189 {
		t.Error(at, e, f.Padding())
	}
	second := datagramOf(20, 0)
	if at, e := f.Add(second); at != 300 || e != api.OK {
		t.Error(at, e)
	}
	if c, e := f.Column(1); e != api.OK || c[:44] != first[256:] || c[44:64] != second || c[64:] != nulls(192) {
		t.Errorf("%q, %v", c, e)
	}
}

// P12.1: Rows that may be, one less and one more of each, and further ones, with what else may be.
func TestRowsThatMayBe(t *testing.T) {
	l := []int{0, 1, -1, 2, 4, 64, 128, 191, 255, 1280, 1536, 2048, 4096, 65536, -256, -512, -768, -1024, 256 + 1<<32, 1<<32 - 256, 256 - 1<<32, math.MinInt, math.MinInt + 256, math.MaxInt}
	for _, rows := range allRows() {
		if e := frame.Check(frame.Config{Rows: rows, Columns: 1}); e != api.OK {
			t.Error(rows, e)
		}
		l = append(l, rows, rows-1, rows+1, rows+2, rows-2, rows+128, rows+4, rows-4)
	}
	for rows := range 1300 {
		l = append(l, rows)
	}
	for _, rows := range l {
		checks(t, frame.Config{Rows: rows, Columns: 1})
		checks(t, frame.Config{Rows: rows, Columns: 191, Cut: 64})
	}
}

// checks holds Check, and New, against the words.
func checks(t *testing.T, c frame.Config) {
	t.Helper()
	want := slowConfig(c)
	if got := frame.Check(c); got != want {
		t.Errorf("Check of %+v: %v, not %v", c, got, want)
	}
	f, e := frame.New(c)
	if e != want || (f != nil) != (want == api.OK) {
		t.Errorf("New of %+v: %t, %v, not %v", c, f != nil, e, want)
	}
}

// outside is numbers that are not from first to last, those next to the ends ahead; cut to fewer bits, some would be.
func outside(first, last int) []int {
	return []int{
		first - 1, last + 1, first - 2, last + 2, -last, -last - 1, 2*last + 2, 255, 256, -255, -256, 257, 512, 1024, 1 << 16, 1<<16 + 1, 1 << 31, 1 << 32, 1<<32 + 1, 1<<32 + last,
		-1 << 31, -1 << 32, -1<<32 + last, 1 << 62, math.MinInt, math.MinInt + 1, math.MinInt + last, math.MaxInt, math.MaxInt - 1,
	}
}

// P12.1: all Columns, and those beyond, of each Rows.
func TestColumnsThatMayBe(t *testing.T) {
	for _, rows := range allRows() {
		for columns := 1; columns < 192; columns++ {
			if e := frame.Check(frame.Config{Rows: rows, Columns: columns}); e != api.OK {
				t.Error(rows, columns, e)
			}
			checks(t, frame.Config{Rows: rows, Columns: columns, Cut: columns % 65})
		}
		for _, columns := range append(outside(1, 191), 0, -1, 192) {
			if e := frame.Check(frame.Config{Rows: rows, Columns: columns}); e != api.ErrConfig {
				t.Error(rows, columns, e)
			}
			checks(t, frame.Config{Rows: rows, Columns: columns, Cut: 64})
		}
	}
}

// P12.1: all Cuts, and those beyond, of each Rows.
func TestCutsThatMayBe(t *testing.T) {
	for _, rows := range allRows() {
		for cut := range 65 {
			if e := frame.Check(frame.Config{Rows: rows, Columns: 1, Cut: cut}); e != api.OK {
				t.Error(rows, cut, e)
			}
			checks(t, frame.Config{Rows: rows, Columns: 191, Cut: cut})
		}
		for _, cut := range append(outside(0, 64), -1, 65, 191) {
			if e := frame.Check(frame.Config{Rows: rows, Columns: 1, Cut: cut}); e != api.ErrConfig {
				t.Error(rows, cut, e)
			}
			checks(t, frame.Config{Rows: rows, Columns: 191, Cut: cut})
		}
	}
}

// P12.1: of which two or all three may not be; and those that any numbers make.
func TestConfigsOfMore(t *testing.T) {
	l := []int{-1, 0, 1, 64, 65, 191, 192, 255, 256, 257, 1024, 1025}
	for _, rows := range l {
		for _, columns := range l {
			for _, cut := range l {
				checks(t, frame.Config{Rows: rows, Columns: columns, Cut: cut})
			}
		}
	}
	s := noise(3)
	for range 300 {
		checks(t, s.config())
	}
}

// P12.1: a new frame is without datagrams, whatever it is like.
func TestNew(t *testing.T) {
	for _, rows := range allRows() {
		for _, columns := range []int{1, 191} {
			f, s := both(t, rows, columns, 0)
			if f.Used() != 0 || f.Padding() != 191 || len(f.Placed()) != 0 {
				t.Error(rows, columns, f.Used(), f.Padding(), len(f.Placed()))
			}
			tells(t, "new", f, s)
		}
	}
}

// P12.1, P12.2: of a nil frame, whatever is asked: ErrNil, nothing, 0.
func TestNilFrame(t *testing.T) {
	var f *frame.Frame
	f.Clear()
	for _, d := range []string{datagramOf(20, 0), datagramOf(4080, 'x'), good6(""), "", "x", datagramOf(20, 0) + "x", strings.Repeat("x", 1<<20)} {
		if got := added(f, d); got != (told{e: api.ErrNil}) {
			t.Errorf("Add of %d bytes: %+v", len(d), got)
		}
	}
	for _, n := range []int{0, 1, 190, 191, 254, -1, 255, 256, 1023, 1024, math.MinInt, math.MaxInt} {
		if got := column(f, n); got != (textOf{e: api.ErrNil}) {
			t.Errorf("Column of %d: %+v", n, got)
		}
		if got := row(f, n); got != (textOf{e: api.ErrNil}) {
			t.Errorf("Row of %d: %+v", n, got)
		}
	}
	if f.Used() != 0 || f.Padding() != 0 || len(f.Placed()) != 0 || len(f.Parity()) != 0 {
		t.Error(f.Used(), f.Padding(), f.Placed(), f.Parity())
	}
	f.Clear()
}

// The datagrams of the tests are what datagram has for some, and has for none.
func TestDatagramsOfTheTests(t *testing.T) {
	s := noise(5)
	l := []string{datagramOf(20, 0), datagramOf(4080, 'x'), good4(15, ""), good6("")}
	for range 200 {
		l = append(l, s.datagram(4080))
	}
	for _, d := range l {
		if e := datagram.Check(d); e != api.OK || slowDatagram(d) != api.OK {
			t.Fatalf("%.40q: %v", d, e)
		}
	}
	for d, want := range wrong() {
		if e := datagram.Check(d); e != want || slowDatagram(d) != want {
			t.Errorf("%.40q: %v, not %v", d, e, want)
		}
	}
}
