package descr

import (
	"strings"

	"clarion/api"
)

const (
	ofRows      = 256 // Rows of a Slice are so many times one of its numbers, and one more
	marks       = 3   // the bits of a Slice's first byte that are always set
	mostMore    = 252 // bytes of the greatest More
	mostTargets = 51  // targets of a descriptor
	lastBits    = 32  // the greatest Bits
)

// Make is a Slice as a descriptor.
func (x Slice) Make() (Descriptor, api.Errno) {
	l := x.numbers()
	switch {
	case x.Rows%ofRows != 0, !ofSlice.fit(l):
		return Descriptor{}, api.ErrRange
	case len(x.More) > mostMore:
		return Descriptor{}, api.ErrLong
	}
	return Descriptor{Tag: TagSlice, Body: ofSlice.text(l) + x.More}, api.OK
}

// ReadSlice is the Slice of a descriptor.
func ReadSlice(d Descriptor) (Slice, api.Errno) {
	head := ofSlice.bytes()
	switch {
	case d.Tag != TagSlice:
		return Slice{}, api.ErrKind
	case len(d.Body) < head:
		return Slice{}, api.ErrShort
	}
	l := ofSlice.read(d.Body)
	x := Slice{Slicing: l[0] == 1, Fec: l[2] == 1, Rows: (l[5] + 1) * ofRows, Burst: l[6], Rate: l[7], ID: l[8], More: strings.Clone(d.Body[head:])}
	// Some bits are not told, and must be as they are written: so the descriptors are held against each other.
	if again, e := x.Make(); e != api.OK || again != d {
		return Slice{}, api.ErrForm
	}
	return x, api.OK
}

// numbers is what stands in a Slice's bits.
func (x Slice) numbers() numbers {
	return numbers{flag(x.Slicing), 0, flag(x.Fec), marks, 0, x.Rows/ofRows - 1, x.Burst, x.Rate, x.ID}
}

// Make is a Place as a descriptor.
func (x Place) Make() (Descriptor, api.Errno) {
	l := numbers{x.Network, x.Original, x.Stream, x.Service, x.Tag}
	if !ofPlace.fit(l) {
		return Descriptor{}, api.ErrRange
	}
	return Descriptor{Tag: TagPlace, Body: ofPlace.text(l)}, api.OK
}

// ReadPlace is the Place of a descriptor.
func ReadPlace(d Descriptor) (Place, api.Errno) {
	switch {
	case d.Tag != TagPlace:
		return Place{}, api.ErrKind
	case len(d.Body) < ofPlace.bytes():
		return Place{}, api.ErrShort
	case len(d.Body) > ofPlace.bytes():
		return Place{}, api.ErrLong
	}
	l := ofPlace.read(d.Body)
	return Place{Network: l[0], Original: l[1], Stream: l[2], Service: l[3], Tag: l[4]}, api.OK
}

// Targets is targets as a descriptor.
func Targets(l ...Target) (Descriptor, api.Errno) {
	for _, x := range l {
		if x.wrong() {
			return Descriptor{}, api.ErrRange
		}
	}
	if len(l) > mostTargets {
		return Descriptor{}, api.ErrLong
	}
	var s strings.Builder
	for _, x := range l {
		s.WriteString(ofTarget.text(x.numbers()))
	}
	return Descriptor{Tag: TagTarget, Body: s.String()}, api.OK
}

// ReadTargets is the targets of a descriptor.
func ReadTargets(d Descriptor) ([]Target, api.Errno) {
	size := ofTarget.bytes()
	switch {
	case d.Tag != TagTarget:
		return nil, api.ErrKind
	case len(d.Body)%size != 0:
		return nil, api.ErrShort
	case len(d.Body)/size > mostTargets:
		return nil, api.ErrForm
	}
	var l []Target
	for rest := d.Body; rest != ""; rest = rest[size:] {
		x := targetOf(ofTarget.read(rest))
		if x.wrong() {
			return nil, api.ErrForm
		}
		l = append(l, x)
	}
	return l, api.OK
}

// wrong tells whether a target's number of bits may not be.
func (x Target) wrong() bool { return x.Bits < 0 || x.Bits > lastBits }

// numbers is what stands in a target's bits; targetOf is the target of them.
func (x Target) numbers() numbers {
	return numbers{int(x.Addr[0]), int(x.Addr[1]), int(x.Addr[2]), int(x.Addr[3]), x.Bits}
}
func targetOf(l numbers) Target {
	return Target{Addr: [4]byte{byte(l[0]), byte(l[1]), byte(l[2]), byte(l[3])}, Bits: l[4]}
}

// flag is the bit of what is, or is not.
func flag(is bool) int {
	if is {
		return 1
	}
	return 0
}
