package descr

import (
	"strings"

	"clarion/api"
)

const (
	lastExt = 0xffff // the greatest ext
	ahead   = 15     // the bits that stand ahead of how many bytes a loop has
)

// Body is the bytes of an Int, but for its Action.
func (x Int) Body() (string, api.Errno) {
	if !x.fits() {
		return "", api.ErrRange
	}
	var s strings.Builder
	s.WriteString(ofHead.text(numbers{x.Platform, x.Order}))
	if e := writeLoop(&s, x.Info); e != api.OK {
		return "", e
	}
	for _, n := range x.Entries {
		if e := writeLoop(&s, n.Targets); e != api.OK {
			return "", e
		}
		if e := writeLoop(&s, n.Ops); e != api.OK {
			return "", e
		}
	}
	return s.String(), api.OK
}

// Ext is the number of 16 bits that goes with an Int's bytes.
func (x Int) Ext() int {
	if !x.fits() {
		return 0
	}
	p := x.Platform
	return x.Action<<8 | (p>>16^p>>8^p)&0xff
}

// ReadInt is the Int of bytes, and of the number that goes with them.
func ReadInt(ext int, body string) (Int, api.Errno) {
	if ext < 0 || ext > lastExt {
		return Int{}, api.ErrRange
	}
	x, e := readBody(body)
	if e != api.OK {
		return Int{}, e
	}
	x.Action = ext >> 8
	// Some bits are not told, and must be as they are written: so the bytes are held against each other.
	if again, e := x.Body(); e != api.OK || again != body || x.Ext() != ext {
		return Int{}, api.ErrForm
	}
	return x, api.OK
}

// fits tells whether an Int's numbers may be.
func (x Int) fits() bool { return ofInt.fit(numbers{x.Platform, x.Order, x.Action}) }

// writeLoop writes a loop, and how many bytes it has ahead of it.
func writeLoop(s *strings.Builder, l []Descriptor) api.Errno {
	t, e := Loop(l...)
	if e != api.OK {
		return e
	}
	s.WriteString(ofLong.text(numbers{ahead, len(t)}))
	s.WriteString(t)
	return api.OK
}

// readBody is the Int of bytes, be they as they are written or not, without an Action.
func readBody(body string) (Int, api.Errno) {
	head := ofHead.bytes()
	if len(body) < head {
		return Int{}, api.ErrShort
	}
	l := ofHead.read(body)
	info, rest, e := takeLoop(body[head:])
	if e != api.OK {
		return Int{}, e
	}
	x := Int{Platform: l[0], Order: l[1], Info: info}
next:
	if rest == "" {
		return x, api.OK
	}
	n, behind, e := takeEntry(rest)
	if e != api.OK {
		return Int{}, e
	}
	x.Entries, rest = append(x.Entries, n), behind
	goto next
}

// takeEntry takes an entry off a text; what is behind it.
func takeEntry(s string) (Entry, string, api.Errno) {
	targets, rest, e := takeLoop(s)
	if e != api.OK {
		return Entry{}, "", e
	}
	ops, rest, e := takeLoop(rest)
	if e != api.OK {
		return Entry{}, "", e
	}
	return Entry{Targets: targets, Ops: ops}, rest, api.OK
}

// takeLoop takes a loop off a text; what is behind it.
func takeLoop(s string) ([]Descriptor, string, api.Errno) {
	head := ofLong.bytes()
	if len(s) < head {
		return nil, "", api.ErrShort
	}
	end := head + ofLong.read(s)[1]
	if len(s) < end {
		return nil, "", api.ErrShort
	}
	l, e := Parse(s[head:end])
	if e != api.OK {
		return nil, "", e
	}
	return l, s[end:], api.OK
}
