package bits

import (
	"iter"
	"strings"

	"clarion/api"
)

// In is bits that are read one behind the other.
type In struct {
	fault
	text string
	at   int
}

// fault is what was wrong first.
type fault struct{ first api.Errno }

// fails tells whether anything was wrong, or is now; e stands for what is wrong now.
func (f *fault) fails(now bool, e api.Errno) bool {
	if f.first == api.OK && now {
		f.first = e
	}
	return f.first != api.OK
}

// Read is one of bytes.
func Read(s string) *In { return &In{text: s} }

// Get reads so many bits.
func (i *In) Get(n int) uint64 {
	if i == nil || i.fails(n < 0 || n > most, api.ErrArg) || i.fails(n > i.Left(), api.ErrShort) {
		return 0
	}
	return i.number(n)
}

// Text reads so many bytes.
func (i *In) Text(n int) string {
	// Eight times n may be no int, an eighth of what is left always is one.
	if i == nil || i.fails(n < 0, api.ErrArg) || i.fails(n > i.Left()/8, api.ErrShort) {
		return ""
	}
	if i.at%8 == 0 {
		from := i.at / 8
		i.at += 8 * n
		return strings.Clone(i.text[from : from+n])
	}
	all := make([]byte, n)
	for k := range all {
		all[k] = byte(i.number(8))
	}
	return string(all)
}

// At is how many bits were read.
func (i *In) At() int {
	if i == nil {
		return 0
	}
	return i.at
}

// Left is how many are left.
func (i *In) Left() int {
	if i == nil {
		return 0
	}
	return 8*len(i.text) - i.at
}

// Err is what was wrong first.
func (i *In) Err() api.Errno {
	// It is not the embedded type's own: a nil reader has none.
	if i == nil {
		return api.ErrNil
	}
	return i.first
}

// number is Get of a number of bits that are there.
func (i *In) number(n int) uint64 {
	x := uint64(0)
	for bit := range i.next(n) {
		x = x<<1 | uint64(bit)
	}
	return x
}

// next goes through the next n bits, and takes the reader along.
func (i *In) next(n int) iter.Seq[byte] {
	return func(yield func(byte) bool) {
		for range n {
			bit := i.text[i.at/8] >> (7 - i.at%8) & 1
			i.at++
			if !yield(bit) {
				return
			}
		}
	}
}
