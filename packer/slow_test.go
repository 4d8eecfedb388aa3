package packer_test

import (
	"slices"
	"strconv"
	"strings"
	"testing"

	"clarion/api"
	"clarion/packer"
	"clarion/packet"
)

// The words of this chapter, and of those that it stands on, byte by byte: each byte of a section knows whether it is the first one, and how many of its section are left, so that the package is not held against the layers that it stands on, nor against its own ways.

// one is a byte; dots and ones are so many of a kind.
func one(n int) string  { return string([]byte{byte(n)}) }
func dots(n int) string { return strings.Repeat(".", n) }
func ones(n int) string { return strings.Repeat("\xff", n) }

// put is s with another byte at a place.
func put(s string, at, n int) string { return s[:at] + one(n) + s[at+1:] }

// of is the bytes of a section that may be packed, so many, of that table; each is another one than that behind it, but for what must be.
func of(table, long int) string {
	b := []byte(one(table) + one(0xb0+(long-3)/256) + one(long-3))
	for k := 3; k < long; k++ {
		b = append(b, byte(table+7*k+k/256))
	}
	return string(b)
}

// all is such sections, of tables from 1 on.
func all(sizes ...int) []string {
	var l []string
	for k, n := range sizes {
		l = append(l, of(1+k%250, n))
	}
	return l
}

// slowCheck is what Check must answer.
func slowCheck(s string) api.Errno {
	if len(s) <= 2 {
		return api.ErrShort
	}
	length := (int(s[1])*256 + int(s[2])) % 4096
	switch {
	case s[1]>>7 != 1 || s[1]>>4&3 != 3 || length <= 8 || length >= 4094:
		return api.ErrForm
	case len(s) <= length+2:
		return api.ErrShort
	case len(s) >= length+4:
		return api.ErrLong
	case s[:1] == "\xff":
		return api.ErrForm
	}
	return api.OK
}

// slowPack is what Pack must answer of what may be packed.
func slowPack(pid, count int, l []string) packs {
	bytes := strings.Join(l, "")
	left := make([]int, 0, len(bytes)+1) // of the section of each byte, that one too, but 0 of the first one
	for _, s := range l {
		left = append(left, 0)
		for n := len(s) - 1; n > 0; n-- {
			left = append(left, n)
		}
	}
	left = append(left, 0)
	var made []packet.Packet
	for at := 0; at < len(bytes); {
		p, r := packet.Packet{Pid: pid, Count: (count + len(made)) % 16}, left[at]
		switch {
		case r >= 184:
			p.Body = bytes[at : at+184]
			at += 184
		case r == 183:
			p.Body = bytes[at : at+183]
			at += 183
		case r >= 1 && at+r == len(bytes):
			p.Body = (bytes[at:] + ones(184))[:184]
			at = len(bytes)
		default:
			to := min(at+183, len(bytes))
			p.Start, p.Body = true, (one(r) + bytes[at:to] + ones(184))[:184]
			at = to
		}
		made = append(made, p)
	}
	return packs{made, (count + len(made)) % 16, api.OK}
}

// packs is what Pack answers; bytesOf is what Bytes and Encode do.
type (
	packs struct {
		l []packet.Packet
		n int
		e api.Errno
	}
	bytesOf struct {
		s string
		e api.Errno
	}
)

func packed(pid, count int, l ...string) packs {
	made, n, e := packer.Pack(pid, count, l...)
	return packs{made, n, e}
}

func bytesIn(l ...packet.Packet) bytesOf {
	s, e := packer.Bytes(l...)
	return bytesOf{s, e}
}

func (x packs) same(y packs) bool { return slices.Equal(x.l, y.l) && x.n == y.n && x.e == y.e }

// text is what Pack answers, in a line: of each packet Pid, Start, Count, how many bytes its body has, and which are first.
func (x packs) text() string {
	s := x.e.Error() + ", " + strconv.Itoa(x.n)
	for _, p := range x.l {
		s += ", " + strconv.Itoa(p.Pid) + " " + strconv.FormatBool(p.Start) + " " + strconv.Itoa(p.Count) + " " + strconv.Itoa(len(p.Body)) + " " + strconv.Quote(p.Body[:min(6, len(p.Body))])
	}
	return s
}

// packsAs holds Pack, and Many, against the words.
func packsAs(t *testing.T, pid, count int, l ...string) []packet.Packet {
	t.Helper()
	got, want := packed(pid, count, l...), slowPack(pid, count, l)
	if !got.same(want) {
		t.Fatalf("%d, %d, %v: %s, not %s", pid, count, sizes(l), got.text(), want.text())
	}
	if n := packer.Many(sizes(l)...); n != len(want.l) {
		t.Fatalf("%v: Many %d, not %d", sizes(l), n, len(want.l))
	}
	return got.l
}

// sizes is how many bytes each text has.
func sizes(l []string) []int {
	var all []int
	for _, s := range l {
		all = append(all, len(s))
	}
	return all
}

// unpacked is the sections that a receiver finds who hears all of the packets, by what a packet tells alone: its Start, and the first byte of such a body.
func unpacked(t *testing.T, l []packet.Packet) []string {
	t.Helper()
	var found []string
	held := ""
	take := func(s string) {
		held += s
		for held != "" && held[0] != 0xff {
			long := 3
			if len(held) >= long {
				long += (int(held[1])*256 + int(held[2])) % 4096
			}
			if len(held) < long || long == 3 {
				return
			}
			found, held = append(found, held[:long]), held[long:]
		}
		held = ""
	}
	for k, p := range l {
		if !p.Start {
			take(p.Body)
			continue
		}
		r := int(p.Body[0])
		take(p.Body[1 : 1+r])
		if held != "" {
			t.Fatalf("packet %d: where the first section begins, %d bytes of one ahead are held", k, len(held))
		}
		take(p.Body[1+r:])
	}
	if held != "" {
		t.Fatalf("%d bytes are held behind the last packet", len(held))
	}
	return found
}

// noise is numbers that follow no rule to be seen, the same ones at each run.
type noise uint64

func (s *noise) below(n int) int {
	*s = *s*6364136223846793005 + 1442695040888963407
	return int((uint64(*s) ^ uint64(*s)>>29) >> 33 % uint64(n))
}

func (s *noise) text(long int) string {
	b := make([]byte, long)
	for i := range b {
		b[i] = byte(s.below(256))
	}
	return string(b)
}

// size is how many bytes a section has: a few often, many seldom.
func (s *noise) size() int {
	switch s.below(8) {
	case 0:
		return 12 + s.below(4085)
	case 1:
		return 180 + s.below(10)
	case 2:
		return 183 + 184*s.below(20) + s.below(7)
	}
	return 12 + s.below(400)
}

// section is one that may be packed: of any table but 255, private or not, with any bytes, many of them 255.
func (s *noise) section(long int) string {
	t := []byte(one(s.below(255)) + one(0xb0+0x40*s.below(2)+(long-3)/256) + one(long-3) + s.text(long-3))
	if s.below(3) == 0 {
		copy(t[3:], ones(s.below(long)))
	}
	return string(t)
}

// sections is some that may be packed.
func (s *noise) sections(many int) []string {
	var l []string
	for range many {
		l = append(l, s.section(s.size()))
	}
	return l
}
