package packer

import (
	"strings"

	"clarion/api"
)

const (
	room = api.Packet - 4 // bytes of the greatest body
	tell = 1              // bytes that tell where the first section begins
)

// cut goes through sections packet by packet. It has their sizes alone, so that to count packets no bytes are needed.
type cut struct {
	left   int   // bytes of a section that a packet ahead began
	follow []int // the sizes of those that begin behind it
}

// share is what one packet has of sections.
type share struct {
	start bool
	left  int // bytes of a section that a packet ahead began
	fresh int // bytes of those that begin in it
	fill  int // bytes behind these
}

// ended tells whether all bytes have their packets.
func (c *cut) ended() bool { return c.left == 0 && len(c.follow) == 0 }

// next is the share of the next packet.
func (c *cut) next() share {
	s := share{left: min(c.left, room)}
	c.left -= s.left
	switch {
	case s.left >= room-tell:
		// Beside a byte that tells there would be no room for the first one of a section that follows.
	case len(c.follow) == 0:
		s.fill = room - s.left
	default:
		s.start, s.fill = true, room-tell-s.left
		c.begin(&s)
	}
	return s
}

// begin puts sections that follow where there is room.
func (c *cut) begin(s *share) {
	for s.fill > 0 && len(c.follow) > 0 {
		n := min(s.fill, c.follow[0])
		s.fresh, s.fill = s.fresh+n, s.fill-n
		c.left, c.follow = c.follow[0]-n, c.follow[1:]
	}
}

// body is the body of a packet with these bytes of sections.
func (s share) body(text string) string {
	// What is built has bytes of its own: a piece of text would keep all of it.
	var b strings.Builder
	b.Grow(room)
	if s.start {
		b.WriteByte(byte(s.left))
	}
	b.WriteString(text)
	for range s.fill {
		b.WriteByte(stuff)
	}
	return b.String()
}
