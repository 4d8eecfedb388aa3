package packet_test

import (
	"slices"
	"strings"
	"testing"

	"clarion/api"
	"clarion/packet"
)

// finds holds Find against a place, and the words against it too.
func finds(t *testing.T, s string, want place) {
	t.Helper()
	if slow := slowFind(s); slow != want {
		t.Fatalf("%d bytes %.12q: by the words %v, not %v", len(s), s, slow, want)
	}
	if got := find(s); got != want {
		t.Fatalf("%d bytes %.12q: %v, not %v", len(s), s, got, want)
	}
}

// nowhere is the answer that there is none.
var nowhere = place{e: api.ErrNone}

// P14.3: no byte, one that is 0x47, and each that is not.
func TestFindOfOneByte(t *testing.T) {
	finds(t, "", nowhere)
	for n := range 256 {
		want := nowhere
		if n == 0x47 {
			want = place{}
		}
		finds(t, string([]byte{byte(n)}), want)
	}
}

// P14.3: fewer bytes than a packet has: the first 0x47 is it, wherever it is.
func TestFindOfFewBytes(t *testing.T) {
	for n := range 188 {
		finds(t, dots(n), nowhere)
		finds(t, strings.Repeat("G", n+1), place{})
		for at := range n {
			finds(t, dots(at)+"G"+dots(n-1-at), place{n: at})
			finds(t, dots(at)+strings.Repeat("G", n-at), place{n: at})
			finds(t, dots(at)+"G"+dots((n-at)/2)+"G", place{n: at})
		}
	}
}

// P14.3: as many bytes as a packet, and more, with no 0x47, and with one at each place: behind 187 there is none, and one alone is told by nothing that is 188 bytes further on, if there is a byte.
func TestFindOfMoreBytes(t *testing.T) {
	for _, n := range []int{188, 189, 200, 375, 376, 377, 564, 565, 1000} {
		finds(t, dots(n), nowhere)
		for at := range n {
			want := nowhere
			if at < 188 && at+188 >= n {
				want = place{n: at}
			}
			finds(t, put(dots(n), at, 'G'), want)
		}
	}
}

// plain is the bytes of a packet in which 0x47 is but the first one.
func plain() string { return slowBytes(packet.Packet{Pid: 17, Count: 3, Body: dots(184)}) }

// P14.3: packets with none to 187 bytes ahead, with a whole one ahead and some bytes more, and with a piece of one behind the last one.
func TestFindOfPackets(t *testing.T) {
	p := plain()
	for _, many := range []int{1, 2, 3, 10} {
		all := strings.Repeat(p, many)
		for ahead := range 188 {
			for _, behind := range []int{0, 1, 2, 100, 187} {
				finds(t, dots(ahead)+all+p[:behind], place{n: ahead})
				finds(t, p[188-ahead:]+all+p[:behind], place{n: ahead})
			}
		}
		for _, ahead := range []int{188, 189, 200, 376} {
			finds(t, dots(ahead)+all, nowhere)
			finds(t, (p + p)[376-ahead:]+all, place{n: ahead % 188})
		}
	}
}

// P14.3: a 0x47 that is not there 188 bytes further on, or further, is none, be it ahead of the packets or the first of them.
func TestFindOfOthers(t *testing.T) {
	p := plain()
	finds(t, "G"+p+p, place{n: 1})
	finds(t, "GGG"+p+p, place{n: 3})
	finds(t, "..G."+p+p, place{n: 4})
	finds(t, p+p+"a", nowhere)
	finds(t, p+p+"G", place{})
	finds(t, p+p+p[:1]+"a", place{})
	finds(t, p+"a"+p[1:], nowhere)
	finds(t, "a"+p[1:]+p, nowhere)
	finds(t, "a"+p[1:]+p+p+"..G", nowhere)
	finds(t, p[:1]+dots(187)+"aG", nowhere)
	finds(t, "aG"+dots(186)+"GG"+dots(186)+"a", place{n: 1})
}

// P14.3: one byte among many packets is wrong, at the beginning of each.
func TestFindOfAWrongPacket(t *testing.T) {
	p := plain()
	for many := 1; many < 8; many++ {
		all := strings.Repeat(p, many)
		for k := range many {
			finds(t, put(all, 188*k, 'a'), nowhere)
			finds(t, "xyz"+put(all, 188*k, 0x46), nowhere)
		}
		for at := range 188 {
			// Another place is right all along, and the least one is told.
			finds(t, other(all, at), place{})
			if at > 0 {
				finds(t, put(other(all, at), 0, 'a'), place{n: at})
			}
		}
	}
}

// other is bytes with a 0x47 at a place, and each 188 bytes further on.
func other(s string, at int) string {
	for ; at < len(s); at += 188 {
		s = put(s, at, 'G')
	}
	return s
}

// P14.3: any bytes, of which many are 0x47, by the words.
func TestFindOfAny(t *testing.T) {
	s := noise(15)
	seen := map[api.Errno]int{}
	late := 0
	for range 20000 {
		b := []byte(strings.Repeat("G", s.below(700)))
		for range s.below(2 + s.below(2000)) {
			if len(b) > 0 {
				b[s.below(len(b))] = byte(s.below(256))
			}
		}
		want := slowFind(string(b))
		finds(t, string(b), want)
		seen[want.e]++
		if want.n > 20 {
			late++
		}
	}
	if seen[api.OK] < 1000 || seen[api.ErrNone] < 200 || late < 200 {
		t.Error("too few of a kind:", seen, late)
	}
}

// P14.3: no more steps than there are bytes, though all places are gone through.
func TestFindOfManyBytes(t *testing.T) {
	all := []byte(strings.Repeat("G", 188*20000))
	last := all[len(all)-188:]
	for k := range 187 {
		last[k] = '.'
	}
	finds(t, string(all), place{n: 187})
	last[187] = '.'
	finds(t, string(all), nowhere)
}

// P14.3: of each number of bytes up to some packets.
func TestCut(t *testing.T) {
	s := noise(17)
	for n := range 1200 {
		cuts(t, s.text(n))
	}
	cuts(t, s.text(188*1000))
	cuts(t, s.text(188*1000+187))
}

// P14.3: the numbers at the ends, by name: how many pieces there are, and how many bytes are left.
func TestCutByName(t *testing.T) {
	for n, want := range map[int][2]int{0: {0, 0}, 1: {0, 1}, 187: {0, 187}, 188: {1, 0}, 189: {1, 1}, 375: {1, 187}, 376: {2, 0}, 377: {2, 1}, 5 * 188: {5, 0}, 5*188 + 100: {5, 100}} {
		l, rest := packet.Cut(dots(n))
		if len(l) != want[0] || rest != dots(want[1]) {
			t.Errorf("%d bytes: %d pieces, %d left", n, len(l), len(rest))
		}
		for _, piece := range l {
			if piece != dots(188) {
				t.Errorf("%d bytes: a piece of %d", n, len(piece))
			}
		}
	}
}

// P14.3: the pieces are any bytes, be they packets or not, and stand as they stood.
func TestCutOfAnyBytes(t *testing.T) {
	p, q := plain(), packet.Empty()
	for _, s := range []string{p + q, q + p + "xy", "x" + p + q, p[1:] + q, strings.Repeat("\x00", 400), "G" + dots(188), strings.Repeat("\xe2\x82\xac", 188)} {
		if all := strings.Join(cuts(t, s), ""); !strings.HasPrefix(s, all) || len(all) != len(s)/188*188 {
			t.Errorf("%.12q: %d bytes", s, len(all))
		}
	}
}

// P14.3, R2: what is done with an answer turns neither another answer nor what is asked later.
func TestCutIsTheCallers(t *testing.T) {
	s := noise(19)
	text := s.stream(5) + "left"
	kept := strings.Clone(text)
	first, rest := packet.Cut(text)
	second, _ := packet.Cut(text)
	had := slices.Clone(second)
	for k := range first {
		first[k] = "x"
	}
	first = append(first[:2], "y", "z")
	slices.Reverse(first)
	for _, l := range [][]string{second, cuts(t, text)} {
		if !slices.Equal(l, had) {
			t.Error("another answer is turned")
		}
	}
	if text != kept || rest != "left" {
		t.Error("the bytes are turned")
	}
	// Neither do lists that are lengthened write into one another.
	l, _ := packet.Cut(text)
	a, b := append(l[:2:2], "a"), append(l[:3:3], "b")
	if a[2] != "a" || b[2] != had[2] || !slices.Equal(l, had) {
		t.Error("lists share what they have")
	}
}
