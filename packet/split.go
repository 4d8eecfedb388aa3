package packet

import (
	"iter"
	"strings"

	"clarion/api"
)

// Find is where packets begin in bytes that may begin with others.
func Find(s string) (int, api.Errno) {
	for at := range min(api.Packet, len(s)) {
		if lead(s[at:]) {
			return at, api.OK
		}
	}
	return 0, api.ErrNone
}

// Cut is bytes as packets, and what is left.
func Cut(s string) ([]string, string) {
	var l []string
	for piece := range split(s) {
		// A piece would keep all of the bytes.
		piece = strings.Clone(piece)
		if len(piece) < api.Packet {
			return l, piece
		}
		l = append(l, piece)
	}
	return l, ""
}

// lead tells whether all pieces begin as packets do.
func lead(s string) bool {
	for piece := range split(s) {
		if piece[0] != sync {
			return false
		}
	}
	return true
}

// split goes through bytes by as many as a packet has; the last ones may be fewer, but are some.
func split(s string) iter.Seq[string] {
	return func(yield func(string) bool) {
		for rest := s; rest != ""; {
			n := min(api.Packet, len(rest))
			if !yield(rest[:n]) {
				return
			}
			rest = rest[n:]
		}
	}
}
