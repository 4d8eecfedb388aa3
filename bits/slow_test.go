package bits_test

import (
	"math"
	"strconv"
	"strings"
	"testing"

	"clarion/api"
	"clarion/bits"
)

// The chapter's own words, with a text of the signs 0 and 1 for bits, so that the package is not held against its own shifts.

// signs is the n lowest bits of x, the highest one of them first.
func signs(x uint64, n int) string {
	all := strings.Repeat("0", 64) + strconv.FormatUint(x, 2)
	return all[len(all)-n:]
}

// signsOf is all bits of all bytes.
func signsOf(s string) string {
	var all strings.Builder
	for k := range len(s) {
		all.WriteString(signs(uint64(s[k]), 8))
	}
	return all.String()
}

// number is that of the signs, the highest one first.
func number(signs string) uint64 {
	x, _ := strconv.ParseUint("0"+signs, 2, 64)
	return x
}

// packed is the signs as bytes, with as few 0 behind them as make whole ones.
func packed(signs string) string {
	for len(signs)%8 != 0 {
		signs += "0"
	}
	all := make([]byte, len(signs)/8)
	for k := range all {
		all[k] = byte(number(signs[8*k : 8*k+8]))
	}
	return string(all)
}

// reader is what an In must be.
type reader struct {
	signs string
	at    int
	e     api.Errno
}

func slowRead(s string) *reader { return &reader{signs: signsOf(s)} }

// take is the next n signs; none, if something is, or was, wrong.
func (r *reader) take(n int, may bool, room int) string {
	switch {
	case r.e != api.OK:
	case !may:
		r.e = api.ErrArg
	case n > room:
		r.e = api.ErrShort
	default:
		return r.signs[r.at:][:n]
	}
	return ""
}

func (r *reader) get(n int) uint64 {
	l := r.take(n, n >= 0 && n <= 64, r.left())
	r.at += len(l)
	return number(l)
}

func (r *reader) text(n int) string {
	if n > math.MaxInt/8 {
		n = math.MaxInt / 8 // as many as are never there
	}
	l := r.take(8*max(n, -1), n >= 0, r.left())
	r.at += len(l)
	return packed(l)
}

func (r *reader) left() int { return len(r.signs) - r.at }

// wrote holds an Out against the signs that were written, and against itself, asked again.
func wrote(t *testing.T, o *bits.Out, signs string) {
	t.Helper()
	for range 2 {
		if o.Len() != len(signs) || o.String() != packed(signs) {
			t.Fatalf("%d bits %q, not %d, %q", o.Len(), o.String(), len(signs), packed(signs))
		}
	}
}

// stands holds a reader against where it must stand, and what must be wrong.
func stands(t *testing.T, i *bits.In, at, left int, e api.Errno) {
	t.Helper()
	for range 2 {
		if i.At() != at || i.Left() != left || i.Err() != e {
			t.Fatalf("at %d, %d left, %v; not at %d, %d left, %v", i.At(), i.Left(), i.Err(), at, left, e)
		}
	}
}

// noise is numbers that follow no rule to be seen, the same ones at each run.
type noise uint64

func (s *noise) next() uint64 {
	*s = *s*6364136223846793005 + 1442695040888963407
	return uint64(*s) ^ uint64(*s)>>29
}

func (s *noise) below(n int) int { return int(s.next() >> 33 % uint64(n)) }

func (s *noise) text(long int) string {
	b := make([]byte, long)
	for i := range b {
		b[i] = byte(s.next() >> 40)
	}
	return string(b)
}

// numbers is those at the ends, of one bit, of runs of bits, and others.
func numbers() []uint64 {
	out := []uint64{0, 5, 1, 0xa5a5a5a5a5a5a5a5, 0x5a5a5a5a5a5a5a5a, 0x0123456789abcdef, 0xfedcba9876543210}
	for n := range 64 {
		out = append(out, 1<<n, math.MaxUint64<<n, math.MaxUint64>>n)
	}
	s := noise(3)
	for range 20 {
		out = append(out, s.next())
	}
	return out
}

// none is numbers of bits that may not be.
func none() []int { return []int{-1, 65, -64, 66, 128, -1 << 32, 1<<32 + 1, math.MinInt, math.MaxInt} }

// huge is numbers of bytes whose eightfold is no int: it comes round to 0, to a few, to less than 0, or to much.
func huge() []int {
	return []int{1 << 60, 1<<60 + 1, 1 << 61, 1<<61 + 1, 1<<61 + 2, 1 << 62, 1<<62 + 1, 3 << 60, math.MaxInt, math.MaxInt / 8, math.MaxInt/8 + 1}
}
