package packet_test

import (
	"strings"
	"testing"

	"clarion/api"
	"clarion/packet"
)

// P14.4: Decode of Encode is the packet, with each length of a body, and any numbers.
func TestDecodeOfEncode(t *testing.T) {
	s := noise(21)
	var l []packet.Packet
	for long := range 185 {
		for _, p := range flags(packet.Packet{Pid: s.below(8192), Count: s.below(16), Body: s.text(long)}) {
			l = append(l, p)
		}
	}
	for n := range 8192 {
		l = append(l, packet.Packet{Pid: n, Count: n / 7 % 16, Body: s.text(s.below(185))})
	}
	for range 5000 {
		l = append(l, s.any())
	}
	for _, p := range l {
		text, e := packet.Encode(p)
		if len(text) != 188 || e != api.OK {
			t.Fatalf("%s: %d bytes, %v", short(p), len(text), e)
		}
		if got := decoded(text); got != (told{p: p}) {
			t.Fatalf("%s: %s, %v", short(p), short(got.p), got.e)
		}
	}
}

// P14.4: Encode of what was decoded is decoded again; and those bytes are the same, if what does not count is as Encode writes it.
func TestDecodeAgain(t *testing.T) {
	s := noise(23)
	good, same := 0, 0
	for range 20000 {
		text := put(s.text(188), 0, 0x47)
		if s.below(2) == 0 {
			text = put(text, 4, 183)
		}
		if s.below(2) == 0 {
			text = put(put(text, 1, int(text[1])&0xdf), 3, int(text[3])&0x3f)
		}
		got := decoded(text)
		if got.e != api.OK {
			continue
		}
		good++
		again := encoded(got.p)
		if again.e != api.OK || decoded(again.s) != got {
			t.Fatalf("%s: %v", short(got.p), again.e)
		}
		if again.s == text {
			same++
		} else if len(got.p.Body) == 184 && text[1]&0x20 == 0 && text[3]&0xc0 == 0 {
			t.Fatalf("%s: other bytes", short(got.p))
		}
	}
	if good < 5000 || same < 1000 {
		t.Error("too few:", good, same)
	}
}

// P14.4: behind the end of a packet, whatever its bytes are, the packets are found there, or ahead.
func TestFindBehindAPacketsEnd(t *testing.T) {
	s := noise(25)
	there, before := 0, 0
	for n := range 3000 {
		all := s.stream(2 + s.below(6))
		if n%2 == 0 {
			all = other(all, 5+s.below(183))
		}
		for range 4 {
			ahead := s.below(188)
			text := all[188-ahead : len(all)-s.below(188)]
			got := find(text)
			if got.e != api.OK || got.n > ahead || got != slowFind(text) {
				t.Fatalf("%d bytes, %d ahead: %v", len(text), ahead, got)
			}
			if got.n == ahead {
				there++
			} else {
				before++
			}
		}
	}
	if there < 1000 || before < 1000 {
		t.Error("too few of a kind:", there, before)
	}
}

// P14.4: so of each number of bytes of the end, of packets of each kind, and of Empty.
func TestFindBehindEachEnd(t *testing.T) {
	kinds := []string{packet.Empty(), plain()}
	for _, long := range bodies {
		kinds = append(kinds, slowBytes(packet.Packet{Pid: 5, Start: true, Body: strings.Repeat("G", long)}), slowBytes(packet.Packet{Pid: 0x747, Count: 7, Body: dots(long)}))
	}
	for _, one := range kinds {
		for _, next := range kinds {
			for ahead := range 188 {
				for _, text := range []string{one[188-ahead:] + next, one[188-ahead:] + next + one + next[:50]} {
					if got := find(text); got.e != api.OK || got.n > ahead || text[got.n] != 'G' {
						t.Fatalf("%d bytes, %d ahead: %v", len(text), ahead, got)
					}
				}
			}
		}
	}
}

// spare is a packet in whose bytes 0x47 is but the first one.
func (s *noise) spare() packet.Packet {
	p := s.any()
	p.Pid, p.Body = 0x100, strings.ReplaceAll(p.Body, "G", "g")
	if len(p.Body) == 183-0x47 {
		p.Body += "." // else the adaptation would tell so many
	}
	return p
}

// P14.3, P14.4: the whole way: packets behind the end of one are found, cut, and decoded; what is left is a piece of the last one.
func TestTheWholeWay(t *testing.T) {
	s := noise(27)
	for range 500 {
		var l []packet.Packet
		all := ""
		for range 3 + s.below(10) {
			p := s.spare()
			text, e := packet.Encode(p)
			if e != api.OK {
				t.Fatal(e)
			}
			l, all = append(l, p), all+text
		}
		ahead, left := s.below(188), s.below(188)
		text := all[188-ahead : len(all)-left]
		at, e := packet.Find(text)
		if at != ahead || e != api.OK {
			t.Fatalf("%d ahead: %d, %v", ahead, at, e)
		}
		pieces, rest := packet.Cut(text[at:])
		for k, piece := range pieces {
			if got := decoded(piece); got != (told{p: l[k+1]}) {
				t.Fatalf("%s: %s, %v", short(l[k+1]), short(got.p), got.e)
			}
		}
		if 188*len(pieces)+len(rest) != len(text)-at || len(rest) != (188-left)%188 || !strings.HasPrefix(slowBytes(l[len(l)-1]), rest) {
			t.Fatalf("%d pieces, and %d bytes left, of %d", len(pieces), len(rest), len(text)-at)
		}
	}
}

// R3: what was asked ahead changes nothing.
func TestAskedAgain(t *testing.T) {
	p := packet.Packet{Pid: 17, Start: true, Count: 3, Body: "hi"}
	text := slowBytes(p)
	type answers struct {
		b     bytesOf
		d     told
		f     place
		e     api.Errno
		empty string
		all   string
	}
	ask := func() answers {
		l, rest := packet.Cut(text + text + "xy")
		return answers{encoded(p), decoded(text), find("xyz" + text), packet.Check(p), packet.Empty(), strings.Join(l, "|") + "|" + rest}
	}
	first := ask()
	packet.Check(packet.Packet{Pid: 8192})
	packet.Encode(packet.Packet{Body: dots(185)})
	packet.Encode(packet.Packet{Pid: 8191, Count: 15, Bad: true, Body: dots(184)})
	packet.Decode(text + "x")
	packet.Decode(packet.Empty())
	packet.Find("")
	packet.Find(strings.Repeat("G", 1000))
	packet.Cut(dots(1000))
	if got := ask(); got != first {
		t.Errorf("%+v, not %+v", got, first)
	}
}
