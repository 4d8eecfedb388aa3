package times_test

import (
	"math"
	"testing"

	"clarion/api"
	"clarion/times"
)

// The chapter's own words, with all bits as one number that is parted by division, units that are counted one by one, and columns that are gone through, so that the package is not held against the layers that it stands on, nor against its own ways.

// number is that of a bit that tells.
func number(is bool) int {
	if is {
		return 1
	}
	return 0
}

// slowBytes is the four bytes of times that may be.
func slowBytes(t api.Times) string {
	all := ((t.Delta*2+number(t.Table))*2+number(t.Frame))*262144 + t.At
	return string([]byte{byte(all / 16777216), byte(all / 65536 % 256), byte(all / 256 % 256), byte(all % 256)})
}

// slowCheck is what Check must answer.
func slowCheck(t api.Times) api.Errno {
	if t.Delta < 0 || t.Delta >= 4096 || t.At < 0 || t.At >= 262144 {
		return api.ErrRange
	}
	return api.OK
}

// bytesOf is what Encode answers, to be held against another one at once; told is what Decode does.
type (
	bytesOf struct {
		s string
		e api.Errno
	}
	told struct {
		t api.Times
		e api.Errno
	}
)

func encoded(t api.Times) bytesOf {
	s, e := times.Encode(t)
	return bytesOf{s, e}
}

func decoded(s string) told {
	t, e := times.Decode(s)
	return told{t, e}
}

// slowDecode is what Decode must answer.
func slowDecode(s string) told {
	switch {
	case len(s) <= 3:
		return told{e: api.ErrShort}
	case len(s) >= 5:
		return told{e: api.ErrLong}
	}
	all := ((int(s[0])*256+int(s[1]))*256+int(s[2]))*256 + int(s[3])
	return told{t: api.Times{Delta: all / 1048576, Table: all/524288%2 == 1, Frame: all/262144%2 == 1, At: all % 262144}}
}

// checks holds Check, and Encode, of times against what they must answer.
func checks(t *testing.T, x api.Times, e api.Errno) {
	t.Helper()
	if got := times.Check(x); got != e {
		t.Errorf("Check of %+v: %v, not %v", x, got, e)
	}
	want := bytesOf{e: e}
	if e == api.OK {
		want.s = slowBytes(x)
	}
	if got := encoded(x); got != want {
		t.Errorf("Encode of %+v: %q, %v, not %q, %v", x, got.s, got.e, want.s, want.e)
	}
}

// one is a number that is answered, and an error; two is two of them.
type (
	one struct {
		n int
		e api.Errno
	}
	two struct {
		first, last int
		e           api.Errno
	}
)

func delta(from, to, unit int) one {
	n, e := times.Delta(from, to, unit)
	return one{n, e}
}

func window(at, delta, unit int) two {
	first, last, e := times.Window(at, delta, unit)
	return two{first, last, e}
}

func wake(at, delta, unit, guard int) one {
	n, e := times.Wake(at, delta, unit, guard)
	return one{n, e}
}

const (
	end  = 1099511627776 // the number behind the last slot
	unit = 1048576       // the greatest unit
)

func noSlot(n int) bool { return n < 0 || n >= end }
func noUnit(n int) bool { return n < 1 || n > unit }

// slowDelta is what Delta must answer: units are laid one behind the other, till they are no less.
func slowDelta(from, to, unit int) one {
	if noSlot(from) || noSlot(to) || noUnit(unit) {
		return one{e: api.ErrArg}
	}
	if to < from {
		return one{e: api.ErrRange}
	}
	for n := range 4096 {
		if from+n*unit >= to {
			return one{n: n}
		}
	}
	return one{e: api.ErrRange}
}

// slowWindow is what Window must answer: units are laid one behind the other, the last one of which is the window.
func slowWindow(at, delta, unit int) two {
	if noSlot(at) || delta < 0 || delta > 4095 || noUnit(unit) {
		return two{e: api.ErrArg}
	}
	w := two{first: at, last: at}
	for range delta {
		w.first = w.last + 1
		w.last += unit
	}
	return w
}

// slowWake is what Wake must answer.
func slowWake(at, delta, unit, guard int) one {
	w := slowWindow(at, delta, unit)
	if w.e != api.OK || guard < 0 || guard > 1048576 {
		return one{e: api.ErrArg}
	}
	if w.first-guard < at {
		return one{n: at}
	}
	return one{n: w.first - guard}
}

// placed is a place, and an error: its parts are held as whole numbers.
type placed struct {
	row, column int
	e           api.Errno
}

func place(rows, at int) placed {
	p, e := times.Place(rows, at)
	if real(p) != math.Floor(real(p)) || imag(p) != math.Floor(imag(p)) {
		return placed{-1, -1, e}
	}
	return placed{int(real(p)), int(imag(p)), e}
}

func at(rows int, p complex128) one {
	n, e := times.At(rows, p)
	return one{n, e}
}

// noise is numbers that follow no rule to be seen, the same ones at each run.
type noise uint64

func (s *noise) below(n int) int {
	*s = *s*6364136223846793005 + 1442695040888963407
	high := uint64(*s^*s>>29) >> 33
	*s = *s*6364136223846793005 + 1442695040888963407
	return int((high<<31 | uint64(*s^*s>>29)>>33) % uint64(n))
}

// times is times that may be.
func (s *noise) times() api.Times {
	return api.Times{Delta: s.below(4096), Table: s.below(2) == 1, Frame: s.below(2) == 1, At: s.below(262144)}
}

// outside is numbers that are not from first to last, those next to the ends ahead; cut to fewer bits, some would be.
func outside(first, last int) []int {
	return []int{
		first - 1, last + 1, first - 2, last + 2, first - last - 1, 2*last + 2, 1<<41 + first, 1<<41 + last, 1<<62 + first, -1 << 32, -1<<41 + last, -1 << 42,
		math.MinInt, math.MinInt + 1, math.MinInt + last, math.MinInt/2 + last, math.MaxInt, math.MaxInt - 1,
	}
}
