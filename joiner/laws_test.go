package joiner_test

import (
	"slices"
	"strings"
	"testing"

	"clarion/api"
	"clarion/joiner"
	"clarion/packer"
	"clarion/packet"
	"clarion/section"
)

// packed is sections as packets of the Pid 17, from that Count on.
func packed(t *testing.T, count int, l ...string) []packet.Packet {
	t.Helper()
	made, _, e := packer.Pack(17, count, l...)
	if e != api.OK {
		t.Fatal(e)
	}
	return made
}

// sizes is how many bytes each text has.
func sizes(l []string) []int {
	var all []int
	for _, s := range l {
		all = append(all, len(s))
	}
	return all
}

// touched is, of each packet, which sections have a byte in it: the first one, and the one behind the last one.
func touched(l []string, made []packet.Packet) [][2]int {
	var all [][2]int
	k, left := 0, 0 // the section that goes on, and how many bytes of it have no packet yet
	if len(l) > 0 {
		left = len(l[0])
	}
	for _, p := range made {
		room := len(p.Body)
		if p.Start {
			room--
		}
		from := k
		for k < len(l) && room >= left {
			room -= left
			if k++; k < len(l) {
				left = len(l[k])
			}
		}
		to := k
		if k < len(l) && room > 0 {
			left, to = left-room, k+1
		}
		all = append(all, [2]int{from, to})
	}
	return all
}

// loses holds what a new joiner answers of packets of which some are missing, or are there as Bad ones: the sections that have no byte in these, in order, each once, and ErrLost where something is missing between two that it has seen. No 15 of them in a row may be missing.
func loses(t *testing.T, l []string, made []packet.Packet, missing []bool, as func(packet.Packet) []packet.Packet) {
	t.Helper()
	gone := make([]bool, len(l))
	for k, x := range touched(l, made) {
		for n := x[0]; n < x[1]; n++ {
			gone[n] = gone[n] || missing[k]
		}
	}
	var want, got []string
	for n, s := range l {
		if !gone[n] {
			want = append(want, s)
		}
	}
	j, _ := joiner.New(17)
	lost, seen := 0, -1
	for k, p := range made {
		if missing[k] {
			for _, p := range as(p) {
				if x := fed(j, p); !x.same(says(api.ErrLost, "", lost+1)) {
					t.Fatalf("%v, %s: %s", sizes(l), line(p), x.text())
				}
				lost, seen = lost+1, -1
			}
			continue
		}
		e := api.OK
		if seen >= 0 && seen != k-1 {
			e, lost = api.ErrLost, lost+1
		}
		seen = k
		x := fed(j, p)
		if x.e != e || x.lost != lost || len(x.held) >= 4096 {
			t.Fatalf("%v, packet %d of %d, missing %v: %s", sizes(l), k, len(made), missing, x.text())
		}
		got = append(got, x.l...)
	}
	if !slices.Equal(got, want) {
		t.Fatalf("%v, missing %v: %v, not %v", sizes(l), missing, sizes(got), sizes(want))
	}
	if n := len(made); n > 0 && !missing[n-1] && j.Held() != "" {
		t.Fatalf("%v, missing %v: %d bytes are held", sizes(l), missing, len(j.Held()))
	}
}

// away is a packet that is not there, and broken one that is, as a Bad one, with a byte of its body turned.
func away(packet.Packet) []packet.Packet { return nil }
func broken(p packet.Packet) []packet.Packet {
	p.Body = "\x5a" + p.Body[1:]
	return []packet.Packet{bad(p)}
}

// P16.3: of all packets, all sections; the same with none missing as by the words.
func TestAllPackets(t *testing.T) {
	s := noise(31)
	for n := 12; n <= 4096; n++ {
		l := []string{s.section(n), s.section(12 + n%300)}
		made := packed(t, n%16, l...)
		loses(t, l, made, make([]bool, len(made)), away)
	}
	for range 1000 {
		l := s.sections(s.below(20))
		made := packed(t, s.below(16), l...)
		loses(t, l, made, make([]bool, len(made)), away)
	}
}

// P16.3: packets that come twice, or more often, and packets of other streams, Bad ones and such as may not be among them, do not count.
func TestTwiceAndOthers(t *testing.T) {
	s := noise(33)
	for range 500 {
		l := s.sections(1 + s.below(12))
		x := both(t, 17)
		var got []string
		for _, p := range packed(t, s.below(16), l...) {
			got = append(got, x.feed(t, p).l...)
			held := x.j.Held()
			for range s.below(4) {
				q, want := p, api.OK
				switch s.below(4) {
				case 0:
					q = packet.Packet{Pid: 18 + s.below(8000), Start: true, Count: s.below(16), Bad: s.below(2) == 1, Body: "\x00" + hi}
					want = api.ErrKind
				case 1:
					q.Body = ""
				case 2:
					q.Count, want = 16, api.ErrRange
				}
				if y := x.feed(t, q); !y.same(says(want, held, 0)) {
					t.Fatalf("%s: %s", line(q), y.text())
				}
			}
		}
		if !slices.Equal(got, l) || x.j.Held() != "" || x.j.Lost() != 0 {
			t.Fatalf("%v: %v", sizes(l), sizes(got))
		}
	}
}

// P16.3: each packet missing, and each row of two to fourteen, of sections short and long.
func TestMissing(t *testing.T) {
	s := noise(35)
	for _, l := range [][]string{
		{of(1, 14), of(2, 400), of(3, 100), of(4, 14)}, {of(1, 183), of(2, 183), of(3, 184), of(4, 183)}, {of(1, 4096), of(2, 12), of(3, 4096), of(4, 366), of(5, 367), of(6, 368)},
		s.sections(10), s.sections(20), s.sections(40), s.sections(40),
	} {
		made := packed(t, 9, l...)
		for from := range made {
			for many := 1; many <= 14; many++ {
				missing := make([]bool, len(made))
				for k := from; k < min(from+many, len(made)); k++ {
					missing[k] = true
				}
				loses(t, l, made, missing, away)
				loses(t, l, made, missing, broken)
			}
		}
	}
}

// P16.3: packets missing here and there, and each second one, and many, but never 15 in a row.
func TestMissingOften(t *testing.T) {
	s := noise(37)
	for run := range 1500 {
		l := s.sections(1 + s.below(30))
		made := packed(t, s.below(16), l...)
		missing := make([]bool, len(made))
		row := 0
		for k := range missing {
			missing[k] = row < 14 && s.below(2+run%12) == 0
			if run%12 == 11 {
				missing[k] = k%2 == run/12%2
			}
			row++
			if !missing[k] {
				row = 0
			}
		}
		loses(t, l, made, missing, away)
		loses(t, l, made, missing, broken)
	}
}

// P16.3, by hand: one packet that is missing, in the midst of a section and at a section's end, and fourteen; fifteen are seen still, if the body is another one, as the Count is the same, and sixteen are not.
func TestMissingByHand(t *testing.T) {
	a, b, c := of(1, 300), of(2, 3060), of(3, 40)
	l := packed(t, 0, a, b, c) // the packet 18 has the end of b, and c
	if len(l) != 19 || !l[0].Start || !l[1].Start || l[17].Start || !l[18].Start {
		t.Fatal(len(l))
	}
	end := b[len(b)-int(l[18].Body[0]):]
	if l[18].Body != one(len(end))+end+c+ones(184-1-len(end)-40) {
		t.Fatal(len(end))
	}
	begin := []step{{p: l[0], want: says(api.OK, a[:183], 0)}, {p: l[1], want: says(api.OK, b[:66], 0, a)}, {p: l[2], want: says(api.OK, b[:250], 0)}}
	for first, want := range map[int]answer{
		4:  says(api.ErrLost, "", 1),
		10: says(api.ErrLost, "", 1),
		16: says(api.ErrLost, "", 1),
		17: says(api.ErrLost, "", 1), // fourteen
		18: says(api.ErrLost, "", 1, c),
	} {
		steps := append(slices.Clone(begin), step{p: l[first], want: want})
		for k := first + 1; k < len(l); k++ {
			behind := says(api.OK, "", 1)
			if k == 18 {
				behind.l = []string{c}
			}
			steps = append(steps, step{p: l[k], want: behind})
		}
		runs(t, "missing ahead of "+line(l[first]), steps...)
	}
	runs(t, "fourteen", step{p: l[0], want: says(api.OK, a[:183], 0)}, step{p: l[15], want: says(api.ErrLost, "", 1)})
	runs(t, "fifteen", step{p: l[0], want: says(api.OK, a[:183], 0)}, step{p: l[16], want: says(api.ErrLost, "", 1)})
	runs(t, "sixteen", step{p: l[0], want: says(api.OK, a[:183], 0)}, step{p: l[17], want: says(api.ErrForm, "", 0, a[:183]+l[17].Body[:117])})
	runs(t, "the first ones", step{p: l[1], want: says(api.OK, b[:66], 0)}, step{p: l[2], want: says(api.OK, b[:250], 0)})
	runs(t, "the first ones, further on", step{p: l[2], want: says(api.OK, "", 0)}, step{p: l[17], want: says(api.ErrLost, "", 1)}, step{p: l[18], want: says(api.OK, "", 1, c)})
}

// P16.3: the whole way: sections of a text are packed, are bytes, with those of other streams between, are cut again, joined by Bytes, decoded, and are the text.
func TestTheWholeWay(t *testing.T) {
	s := noise(39)
	for range 60 {
		text := s.text(s.below(30000))
		parts, e := section.Split(66, 1, 0, text)
		if e != api.OK {
			t.Fatal(e)
		}
		var l []string
		for _, part := range parts {
			b, e := section.Encode(part)
			if e != api.OK {
				t.Fatal(e)
			}
			l = append(l, b)
		}
		var all strings.Builder
		for _, p := range packed(t, 11, l...) {
			b, e := packer.Bytes(p, p)
			if e != api.OK {
				t.Fatal(e)
			}
			all.WriteString(packet.Empty() + b + packet.Empty())
		}
		j, _ := joiner.New(17)
		heard, rest := packet.Cut(all.String())
		var joined []section.Section
		for _, h := range heard {
			l, e := j.Bytes(h)
			if e != api.OK && h != packet.Empty() || h == packet.Empty() && e != api.ErrKind {
				t.Fatal(e)
			}
			for _, b := range l {
				part, e := section.Decode(b)
				if e != api.OK {
					t.Fatal(e)
				}
				joined = append(joined, part)
			}
		}
		if got, e := section.Join(joined...); got != text || e != api.OK || rest != "" || j.Held() != "" || j.Lost() != 0 {
			t.Fatalf("%d bytes, not %d, %v", len(got), len(text), e)
		}
	}
}

// P16.3: lists that are packed one behind the other, each with the Count behind the last one, lose nothing.
func TestListBehindList(t *testing.T) {
	s := noise(41)
	x := both(t, 17)
	count := 5
	for range 300 {
		l := s.sections(s.below(5))
		made := packed(t, count, l...)
		count = (count + len(made)) % 16
		var got []string
		for _, p := range made {
			y := x.feed(t, p)
			if y.e != api.OK {
				t.Fatal(y.text())
			}
			got = append(got, y.l...)
		}
		if !slices.Equal(got, l) || x.j.Held() != "" {
			t.Fatalf("%v: %v", sizes(l), sizes(got))
		}
	}
}

// R2: what is answered is the caller's: what is done with it, and with what is put behind it, is not seen by another call.
func TestAnswersAreTheCallers(t *testing.T) {
	j, _ := joiner.New(17)
	l, _ := j.Feed(first(3, "\x00"+hi+hi+hi[:5]))
	for k := range l {
		l[k] = "x"
	}
	l = append(l, "y", "z")
	if got := fed(j, next(4, hi[5:]+hi[:3])); !got.same(says(api.OK, hi[:3], 0, hi)) {
		t.Error(got.text())
	}
	if !slices.Equal(l, []string{"x", "x", "y", "z"}) {
		t.Error(l)
	}
}

// R3: what is answered hangs on that joiner's calls alone: two that are fed by turns, and one that is fed the same behind them, answer the same.
func TestTwoByTurns(t *testing.T) {
	s := noise(43)
	var l []packet.Packet
	x := both(t, 17)
	var want []answer
	for range 800 {
		p := s.packet(x.s)
		l, want = append(l, p), append(want, x.feed(t, p))
	}
	j, _ := joiner.New(17)
	k, _ := joiner.New(17)
	other, _ := joiner.New(18)
	for n, p := range l {
		if got := fed(j, p); !got.same(want[n]) {
			t.Fatalf("%d: %s", n, got.text())
		}
		p.Pid = 18
		fed(other, p)
		j.Held()
		j.Lost()
		if n > 0 {
			if got := fed(k, l[n-1]); !got.same(want[n-1]) {
				t.Fatalf("%d: %s", n-1, got.text())
			}
		}
	}
}

// P16.1: many packets, in a time that goes with how many they are; so with a section that comes byte by byte.
func TestMany(t *testing.T) {
	var l []string
	for range 40000 {
		l = append(l, hi, of(3, 500))
	}
	j, _ := joiner.New(17)
	n := 0
	for _, p := range packed(t, 0, l...) {
		got, e := j.Feed(p)
		if e != api.OK {
			t.Fatal(e)
		}
		n += len(got)
	}
	a := of(7, 4096)
	j, _ = joiner.New(17)
	j.Feed(first(15, "\x00"))
	for k := range 40 * 4096 {
		got, e := j.Feed(next(k%16, a[k%4096:][:1]))
		if e != api.OK {
			t.Fatal(e)
		}
		n += len(got)
	}
	if n != 80040 {
		t.Error(n)
	}
}
