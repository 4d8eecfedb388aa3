package packer_test

import (
	"slices"
	"strings"
	"testing"

	"clarion/api"
	"clarion/packer"
	"clarion/packet"
	"clarion/section"
)

// inPackets holds the packets of sections against what follows: each has a byte of a section, and all of these stand in them in order, each once.
func inPackets(t *testing.T, l []string, made []packet.Packet) {
	t.Helper()
	rest := strings.Join(l, "")
	begin, at := map[int]bool{}, 0 // where sections begin in all bytes
	for _, s := range l {
		begin[at], at = true, at+len(s)
	}
	at = 0
	for k, p := range made {
		body := p.Body
		if p.Start {
			body = body[1:]
		}
		n := min(len(body), len(rest))
		if n == 0 || body[:n] != rest[:n] || strings.Trim(body[n:], "\xff") != "" || k < len(made)-1 && n < len(body) {
			t.Fatalf("%v: packet %d has no byte of a section, or not these", sizes(l), k)
		}
		starts := 0
		for where := range n {
			if !begin[at+where] {
				continue
			}
			if starts == 0 && p.Start && int(p.Body[0]) != where {
				t.Fatalf("%v: packet %d tells %d, and the first section begins at %d", sizes(l), k, p.Body[0], where)
			}
			starts++
		}
		if p.Start != (starts > 0) {
			t.Fatalf("%v: packet %d: %t, and %d sections begin", sizes(l), k, p.Start, starts)
		}
		rest, at = rest[n:], at+n
	}
	if rest != "" {
		t.Fatalf("%v: %d bytes are in no packet", sizes(l), len(rest))
	}
}

// P15.3: the bytes of sections stand in the packets in order, each once, and no packet has a body without one; a packet has Start just where a section begins in it, and tells where.
func TestBytesInOrderEachOnce(t *testing.T) {
	s := noise(21)
	for n := 12; n <= 4096; n++ {
		l := []string{s.section(n), s.section(12 + n%300)}
		inPackets(t, l, packed(17, 3, l...).l)
	}
	for range 2000 {
		l := s.sections(1 + s.below(15))
		inPackets(t, l, packed(17, 3, l...).l)
	}
}

// P15.3: who hears all packets finds the sections, by what a packet tells alone.
func TestUnpacked(t *testing.T) {
	s := noise(23)
	for range 2000 {
		l := s.sections(s.below(15))
		if found := unpacked(t, packed(17, 3, l...).l); !slices.Equal(found, l) {
			t.Fatalf("%v: %v", sizes(l), sizes(found))
		}
	}
}

// P15.3: so the whole way: sections of a text are packed, are bytes, are cut again, decoded, unpacked, and are the text.
func TestTheWholeWay(t *testing.T) {
	s := noise(25)
	for range 60 {
		text := s.text(s.below(30000))
		parts, e := section.Split(66, 1, 0, text)
		if e != api.OK {
			t.Fatal(e)
		}
		var l []string
		for _, part := range parts {
			b, e := section.Encode(part)
			if e != api.OK || packer.Check(b) != api.OK {
				t.Fatal(e, packer.Check(b))
			}
			l = append(l, b)
		}
		made := packed(8190, 11, l...)
		bytes := bytesIn(made.l...)
		if made.e != api.OK || bytes.e != api.OK || len(bytes.s) != 188*packer.Many(sizes(l)...) {
			t.Fatalf("%d bytes, %v", len(bytes.s), bytes.e)
		}
		heard, rest := packet.Cut(bytes.s)
		var again []packet.Packet
		for _, h := range heard {
			p, e := packet.Decode(h)
			if e != api.OK {
				t.Fatal(e)
			}
			again = append(again, p)
		}
		if rest != "" || !slices.Equal(again, made.l) {
			t.Fatal("other packets")
		}
		var joined []section.Section
		for _, b := range unpacked(t, again) {
			part, e := section.Decode(b)
			if e != api.OK {
				t.Fatal(e)
			}
			joined = append(joined, part)
		}
		if got, e := section.Join(joined...); got != text || e != api.OK {
			t.Fatalf("%d bytes, not %d, %v", len(got), len(text), e)
		}
	}
}

// P15.1: lists that are packed one behind the other, each with the Count behind the last one, have Counts without a gap.
func TestCountsFromListToList(t *testing.T) {
	s := noise(27)
	count, packets := 5, 0
	for range 200 {
		made := packed(17, count, s.sections(s.below(4))...)
		for _, p := range made.l {
			if p.Count != (5+packets)%16 {
				t.Fatalf("packet %d: %d", packets, p.Count)
			}
			packets++
		}
		count = made.n
	}
	if count != (5+packets)%16 || packets < 1000 {
		t.Error(count, packets)
	}
}

// P15.2: Many is how many packets Pack makes, of any sizes; in which order they come may count.
func TestManyIsAsPackMakes(t *testing.T) {
	s := noise(29)
	for range 3000 {
		l := s.sections(s.below(20))
		if n, made := packer.Many(sizes(l)...), packed(1, 0, l...); n != len(made.l) || made.e != api.OK {
			t.Fatalf("%v: %d, not %d", sizes(l), n, len(made.l))
		}
	}
	if a, b := packer.Many(366, 367), packer.Many(367, 366); a != 4 || b != 4 {
		t.Error(a, b)
	}
	if a, b := packer.Many(366, 14, 170), packer.Many(14, 366, 170); a != 4 || b != 3 {
		t.Error(a, b)
	}
}

// R2: what is handed in is not written into, nor is what stands behind its length; what is answered shares nothing with it.
func TestHandedInIsLeft(t *testing.T) {
	texts := all(400, 14, 183, 500, 12)
	want := slices.Clone(texts)
	first := packed(17, 3, texts[:3]...)
	if !slices.Equal(texts, want) || len(first.l) != 4 {
		t.Error("Pack wrote into its sections:", sizes(texts), len(first.l))
	}
	numbers := []int{400, 14, 183, 500, 12}
	if n := packer.Many(numbers[:3]...); n != 4 || !slices.Equal(numbers, []int{400, 14, 183, 500, 12}) {
		t.Error("Many:", n, numbers)
	}
	made := slices.Clone(first.l)
	bytesIn(first.l[:2]...)
	if !slices.Equal(first.l, made) {
		t.Error("Bytes wrote into its packets")
	}
	// What is answered is the caller's: what is done with it is not seen by another call.
	for k := range first.l {
		first.l[k] = packet.Packet{}
	}
	first.l = append(first.l, packet.Packet{Pid: 5})
	if again := packed(17, 3, want[:3]...); !slices.Equal(again.l, made) {
		t.Error(again.text())
	}
}

// R1, R3: no call panics, and what was asked ahead changes nothing.
func TestAskedAgain(t *testing.T) {
	l := all(400, 14, 183)
	ask := func() string {
		made := packed(17, 3, l...)
		return made.text() + bytesIn(made.l...).s + packer.Check(hi).Error() + strings.Repeat(".", packer.Many(sizes(l)...))
	}
	first := ask()
	packer.Check("")
	packer.Pack(-1, -1)
	packer.Pack(17, 3, "")
	packer.Pack(17, 15, hi, hi[:13])
	packer.Pack(8190, 15, all(4096, 12)...)
	packer.Bytes()
	packer.Bytes(packet.Packet{}, packet.Packet{Pid: -1})
	packer.Many()
	packer.Many(-1, 5)
	if got := ask(); got != first {
		t.Errorf("%.60q, not %.60q", got, first)
	}
}

// P15.1, P15.2: many sections, and many packets, in a time that goes with how many they are.
func TestMany(t *testing.T) {
	var l []string
	for range 40000 {
		l = append(l, hi, of(3, 500))
	}
	made := packed(17, 0, l...)
	if made.e != api.OK || len(made.l) != packer.Many(sizes(l)...) || len(unpacked(t, made.l)) != 80000 {
		t.Error(len(made.l), made.e)
	}
	if got := bytesIn(made.l...); len(got.s) != 188*len(made.l) || got.e != api.OK {
		t.Error(len(got.s), got.e)
	}
}
