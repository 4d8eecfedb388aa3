package joiner

import (
	"strings"

	"clarion/api"
	"clarion/packet"
	"clarion/section"
)

const stuff = 0xff // the byte that stands behind the last section: none begins so

// read goes through a packet's body: the sections that are at their end, and the first error.
func (j *Joiner) read(p packet.Packet) ([]string, api.Errno) {
	if !p.Start {
		return j.take(p.Body)
	}
	r, rest := int(p.Body[0]), p.Body[1:]
	if r > len(rest) {
		j.leave()
		return nil, api.ErrForm
	}
	l, e := j.take(rest[:r])
	// A section begins here, wherever the one ahead of it has come to.
	j.leave()
	j.follows = true
	more, behind := j.take(rest[r:])
	if e == api.OK {
		e = behind
	}
	return append(l, more...), e
}

// take goes on with bytes, in the midst of sections alone: those that are at their end, be there an error behind them or not.
func (j *Joiner) take(s string) ([]string, api.Errno) {
	if !j.follows {
		return nil, api.OK
	}
	var ended []string
	rest := j.held + s
next:
	if rest != "" && rest[0] == stuff {
		j.leave()
		return ended, api.OK
	}
	n, e := section.Need(rest)
	switch {
	case e == api.ErrShort, e == api.OK && n > len(rest):
		// Of no bytes, and of too few, nothing can be told till there are more.
		j.held = strings.Clone(rest)
		return ended, api.OK
	case e != api.OK:
		j.leave()
		return ended, api.ErrForm
	}
	ended = append(ended, strings.Clone(rest[:n]))
	rest = rest[n:]
	goto next
}
