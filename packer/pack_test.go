package packer_test

import (
	"strings"
	"testing"

	"clarion/api"
	"clarion/packer"
	"clarion/packet"
)

// bodies holds the packets of sections against bodies, those with Start written with the sign s ahead of them.
func bodies(t *testing.T, name string, l []string, want ...string) {
	t.Helper()
	made := []packet.Packet{}
	for k, body := range want {
		start := body[0] == 's'
		made = append(made, packet.Packet{Pid: 17, Start: start, Count: (14 + k) % 16, Body: body[1:]})
	}
	x := packs{made, (14 + len(want)) % 16, api.OK}
	if got := packed(17, 14, l...); !got.same(x) {
		t.Errorf("%s: %s, not %s", name, got.text(), x.text())
	}
	if n := packer.Many(sizes(l)...); n != len(want) {
		t.Errorf("%s: Many %d, not %d", name, n, len(want))
	}
}

// P15.1: no sections, in a list that is nil and in one that is not.
func TestPackOfNone(t *testing.T) {
	for count := range 16 {
		for _, l := range [][]string{nil, {}} {
			if got := packed(17, count, l...); !got.same(packs{n: count}) {
				t.Errorf("%d: %s", count, got.text())
			}
		}
	}
}

// P15.1: one section alone, by what is left of it at the second packet's beginning, none follows.
func TestLeftWithoutAnother(t *testing.T) {
	of := func(left int) []string { return all(183 + left) }
	text := func(left int) string { return of(left)[0] }
	begin := func(left int) string { return "s\x00" + text(left)[:183] }
	bodies(t, "0", of(0), begin(0))
	bodies(t, "1", of(1), begin(1), "."+text(1)[183:]+ones(183))
	bodies(t, "2", of(2), begin(2), "."+text(2)[183:]+ones(182))
	bodies(t, "181", of(181), begin(181), "."+text(181)[183:]+ones(3))
	bodies(t, "182", of(182), begin(182), "."+text(182)[183:]+ones(2))
	bodies(t, "183", of(183), begin(183), "."+text(183)[183:])
	bodies(t, "184", of(184), begin(184), "."+text(184)[183:])
	bodies(t, "185", of(185), begin(185), "."+text(185)[183:367], "."+text(185)[367:]+ones(183))
	bodies(t, "367", of(367), begin(367), "."+text(367)[183:367], "."+text(367)[367:])
	bodies(t, "368", of(368), begin(368), "."+text(368)[183:367], "."+text(368)[367:])
}

// P15.1: so with a section of 14 bytes that follows: it begins behind what is left, if a byte that tells and one of its own have room.
func TestLeftWithAnother(t *testing.T) {
	of := func(left int) []string { return []string{all(183 + left)[0], hi} }
	text := func(left int) string { return of(left)[0] }
	begin := func(left int) string { return "s\x00" + text(left)[:183] }
	alone := "s\x00" + hi + ones(169)
	bodies(t, "0", of(0), begin(0), alone)
	bodies(t, "1", of(1), begin(1), "s\x01"+text(1)[183:]+hi+ones(168))
	bodies(t, "2", of(2), begin(2), "s\x02"+text(2)[183:]+hi+ones(167))
	bodies(t, "169", of(169), begin(169), "s\xa9"+text(169)[183:]+hi)
	bodies(t, "170", of(170), begin(170), "s\xaa"+text(170)[183:]+hi[:13], "."+hi[13:]+ones(183))
	bodies(t, "181", of(181), begin(181), "s\xb5"+text(181)[183:]+hi[:2], "."+hi[2:]+ones(172))
	bodies(t, "182", of(182), begin(182), "s\xb6"+text(182)[183:]+hi[:1], "."+hi[1:]+ones(171))
	bodies(t, "183", of(183), begin(183), "."+text(183)[183:], alone)
	bodies(t, "184", of(184), begin(184), "."+text(184)[183:], alone)
	bodies(t, "185", of(185), begin(185), "."+text(185)[183:367], "s\x01"+text(185)[367:]+hi+ones(168))
	bodies(t, "367", of(367), begin(367), "."+text(367)[183:367], "."+text(367)[367:], alone)
	bodies(t, "368", of(368), begin(368), "."+text(368)[183:367], "."+text(368)[367:], alone)
}

// P15.1: a section that ends with a packet's last byte, with the last but one, and with the one ahead of that, where it began and one packet further on, with a section that follows, and without one.
func TestEndsNearAPacketsEnd(t *testing.T) {
	for k, name := range []string{"the last", "the last but one", "the one ahead of that"} {
		near := all(183 - k)[0]
		bodies(t, name+", alone", []string{near}, "s\x00"+near+ones(k))
		if k == 0 {
			bodies(t, name+", another one", []string{near, hi}, "s\x00"+near, "s\x00"+hi+ones(169))
		} else {
			bodies(t, name+", another one", []string{near, hi}, "s\x00"+near+hi[:k], "."+hi[k:]+ones(170+k))
		}
	}
	for left, behind := range map[int]string{184: "", 183: "", 182: ones(2), 181: ones(3)} {
		// No byte of these packets tells; of 183 bytes the last one is the packet's, too, as an adaptation stands ahead of them.
		far := all(183 + left)[0]
		bodies(t, "further on, alone", []string{far}, "s\x00"+far[:183], "."+far[183:]+behind)
		far = all(183 + 184 + left)[0]
		bodies(t, "two packets further on, alone", []string{far}, "s\x00"+far[:183], "."+far[183:367], "."+far[367:]+behind)
	}
	for k := range 3 {
		// Two sections, of which the second one ends there, behind one that a packet ahead began.
		l := all(200, 183-17-k, 14)
		second := "s\x11" + l[0][183:] + l[1]
		if k == 0 {
			bodies(t, "the last, behind one", l, "s\x00"+l[0][:183], second, "s\x00"+l[2]+ones(169))
		} else {
			bodies(t, "near the last, behind one", l, "s\x00"+l[0][:183], second+l[2][:k], "."+l[2][k:]+ones(170+k))
		}
		bodies(t, "near the last, none behind", l[:2], "s\x00"+l[0][:183], second+ones(k))
	}
}

// P15.1: several sections that begin in one packet; the first byte of its body tells the first one's place alone.
func TestSeveralBeginInOnePacket(t *testing.T) {
	l := all(14, 20, 30)
	bodies(t, "three", l, "s\x00"+l[0]+l[1]+l[2]+ones(119))
	l = all(300, 12, 13, 14)
	bodies(t, "three behind one", l, "s\x00"+l[0][:183], "s\x75"+l[0][183:]+l[1]+l[2]+l[3]+ones(27))
	l = all(12, 12, 12, 12, 12, 12, 12, 12, 12, 12, 12, 12, 12, 12, 12, 12)
	text := strings.Join(l, "")
	bodies(t, "sixteen", l, "s\x00"+text[:183], "."+text[183:]+ones(175))
	l = append(l, of(99, 12))
	text = strings.Join(l, "")
	bodies(t, "seventeen", l, "s\x00"+text[:183], "s\x09"+text[183:]+ones(162))
	l = all(14, 14, 400)
	text = strings.Join(l, "")
	bodies(t, "two, and one that goes on", l, "s\x00"+text[:183], "."+text[183:367], "."+text[367:]+ones(123))
	l = all(400, 14, 400, 14)
	text = strings.Join(l, "")
	bodies(t, "one in the midst", l, "s\x00"+text[:183], "."+text[183:367], "s\x21"+text[367:550], "."+text[550:734], "s\x50"+text[734:]+ones(89))
}

// P15.1: bytes 255 stand behind the last section alone: none are between sections, not where the next one has no room but for a byte.
func TestFillBehindTheLastOneAlone(t *testing.T) {
	s := noise(7)
	for range 300 {
		var l []string
		for range 1 + s.below(8) {
			l = append(l, of(1+s.below(9), 12+s.below(500)))
		}
		made := packed(17, 0, l...).l
		for k, p := range made[:len(made)-1] {
			next := made[k+1]
			if long := len(p.Body); long != 184 && (long != 183 || p.Start || !next.Start || next.Body[0] != 0) {
				t.Fatalf("%v: packet %d has %d bytes", sizes(l), k, long)
			}
		}
	}
}

// P15.1: each size of one section, alone, and with one that follows; so all numbers of bytes that may be left are.
func TestEachSize(t *testing.T) {
	for n := 12; n <= 4096; n++ {
		s := of(1+n%254, n)
		packsAs(t, 17, n%16, s)
		packsAs(t, 17, n%16, s, hi)
	}
}

// P15.1: each size of two sections, near those at which a packet ends, with one that follows.
func TestEachTwoSizes(t *testing.T) {
	for first := 12; first < 400; first += 1 + first/190*5 {
		for second := 12; second < 380; second++ {
			if second > 20 && second%184 < 160 && second%7 > 0 {
				continue
			}
			packsAs(t, 8190, 9, of(3, first), of(4, second))
			packsAs(t, 8190, 9, of(3, first), of(4, second), hi)
		}
	}
}

// P15.1: any sections, of any bytes, by the words.
func TestPackOfAny(t *testing.T) {
	s := noise(9)
	for range 3000 {
		packsAs(t, s.below(8191), s.below(16), s.sections(s.below(12))...)
	}
	packsAs(t, 8190, 15, s.sections(3000)...)
}

// P15.1: sections with bytes 255, 0 and 0x47 alone behind what must be: what a packet has hangs on sizes alone.
func TestPackOfLikeBytes(t *testing.T) {
	for _, c := range []string{"\x00", "\xff", "\x47"} {
		for n := 12; n < 760; n++ {
			s := hi[:1] + of(1, n)[1:3] + strings.Repeat(c, n-3)
			packsAs(t, 17, 3, s)
			packsAs(t, 17, 3, s, s, hi)
		}
	}
}
