package joiner_test

import (
	"math"
	"strconv"
	"testing"

	"clarion/api"
	"clarion/joiner"
	"clarion/packet"
	"clarion/section"
)

// The calls as the chapter lists them: with another signature this file does not build.
var (
	_ func(int) (*joiner.Joiner, api.Errno)                     = joiner.New
	_ func(*joiner.Joiner, packet.Packet) ([]string, api.Errno) = (*joiner.Joiner).Feed
	_ func(*joiner.Joiner, string) ([]string, api.Errno)        = (*joiner.Joiner).Bytes
	_ func(*joiner.Joiner) string                               = (*joiner.Joiner).Held
	_ func(*joiner.Joiner) int                                  = (*joiner.Joiner).Lost
	_ func(*joiner.Joiner)                                      = (*joiner.Joiner).Drop
)

// hi is chapter 8's example of a section: 14 bytes.
const hi = "\x42\xb0\x0b\x00\x00\xc1\x00\x00hi\xdd\x19\x5b\x41"

// first is a packet of the Pid 17 with Start, next one without; bad is one that is Bad, too.
func first(count int, body string) packet.Packet {
	return packet.Packet{Pid: 17, Start: true, Count: count, Body: body}
}
func next(count int, body string) packet.Packet {
	return packet.Packet{Pid: 17, Count: count, Body: body}
}
func bad(p packet.Packet) packet.Packet {
	p.Bad = true
	return p
}

// says is an answer.
func says(e api.Errno, held string, lost int, l ...string) answer { return answer{l, e, held, lost} }

// step is a packet, and what is answered; where drop is told, Drop is called ahead of it.
type step struct {
	p    packet.Packet
	want answer
	drop bool
}

// runs holds a new joiner of the Pid 17, and the words, against answers by hand.
func runs(t *testing.T, name string, steps ...step) {
	t.Helper()
	x := both(t, 17)
	for k, s := range steps {
		if s.drop {
			x.drop(t)
		}
		if got := x.feed(t, s.p); !got.same(s.want) {
			t.Errorf("%s, %d, %s: %s, not %s", name, k, line(s.p), got.text(), s.want.text())
		}
	}
}

// The chapter's example, as it stands there; it follows no more behind it.
func TestExamples(t *testing.T) {
	if s, e := section.Encode(section.Section{Table: 66, Now: true, Body: "hi"}); s != hi || e != api.OK {
		t.Fatalf("%q, %v", s, e)
	}
	for _, behind := range []int{1, 2, 3, 169} {
		runs(t, "the example",
			step{p: first(3, "\x00"+hi+ones(behind)), want: says(api.OK, "", 0, hi)},
			step{p: next(4, hi), want: says(api.OK, "", 0)},
		)
	}
}

// outside is numbers that are not from 0 to last; cut to fewer bits, some would be.
func outside(last int) []int {
	return []int{-1, -2, -last, -last - 1, -last - 2, last + 1, last + 2, 2*last + 2, 1<<16 + last + 1, 1 << 32, 1<<32 + 1, -1 << 32, math.MinInt, math.MinInt + 1, math.MaxInt}
}

// P16.1: New, the ends of the Pid by name, and each one that may be: it takes that Pid, and no other one.
func TestNew(t *testing.T) {
	for n, want := range map[int]api.Errno{-1: api.ErrRange, 0: api.OK, 1: api.OK, 8190: api.OK, 8191: api.ErrRange, 8192: api.ErrRange} {
		if j, e := joiner.New(n); e != want || (j == nil) != (want != api.OK) {
			t.Errorf("%d: %v", n, e)
		}
	}
	for _, n := range outside(8190) {
		if j, e := joiner.New(n); j != nil || e != api.ErrRange {
			t.Errorf("%d: %v", n, e)
		}
	}
	for n := range 8191 {
		x := both(t, n)
		x.feed(t, packet.Packet{Pid: (n + 1) % 8191, Start: true, Body: "\x00" + hi})
		x.feed(t, packet.Packet{Pid: 8191 - n, Start: true, Body: "\x00" + hi})
		if got := x.feed(t, packet.Packet{Pid: n, Start: true, Body: "\x00" + hi}); !got.same(says(api.OK, "", 0, hi)) {
			t.Fatalf("%d: %s", n, got.text())
		}
	}
}

// turnsNothing holds that a packet is answered with an error, or with nothing, and that nothing is turned: at first, in the midst of a section, and where something was lost.
func turnsNothing(t *testing.T, name string, p packet.Packet, e api.Errno) {
	t.Helper()
	runs(t, name+", at first",
		step{p: p, want: says(e, "", 0)},
		step{p: first(9, "\x00"+hi[:5]), want: says(api.OK, hi[:5], 0)}, // no Count was seen
		step{p: p, want: says(e, hi[:5], 0)},
		step{p: p, want: says(e, hi[:5], 0)},
		step{p: first(9, "\x00"+hi[:5]), want: says(api.OK, hi[:5], 0)}, // it is the one seen last still
		step{p: next(10, hi[5:]), want: says(api.OK, "", 0, hi)},
	)
	runs(t, name+", lost",
		step{p: first(4, "\x00"+hi[:5]), want: says(api.OK, hi[:5], 0)},
		step{p: first(6, "\x00"+hi[:7]), want: says(api.ErrLost, hi[:7], 1)},
		step{p: p, want: says(e, hi[:7], 1)},
		step{p: next(7, hi[7:13]), want: says(api.OK, hi[:13], 1)},
		step{p: p, want: says(e, hi[:13], 1)},
		step{p: p, want: says(e, hi[:13], 1)},
		step{p: next(8, hi[13:]+hi), want: says(api.OK, "", 1, hi, hi)},
		step{p: p, want: says(e, "", 1)},
		step{p: next(9, hi), want: says(api.OK, "", 1, hi)},
	)
}

// P16.1: packets of which packet.Check tells an error, be they of that Pid or not (R1).
func TestFeedOfWhatMayNotBe(t *testing.T) {
	body := "\x00" + hi
	for _, pid := range append(outside(8191), 17, 18, 8191) {
		p := packet.Packet{Pid: pid, Start: true, Count: 5, Body: body}
		if pid < 0 || pid > 8191 {
			turnsNothing(t, "Pid "+strconv.Itoa(pid), p, api.ErrRange)
			turnsNothing(t, "Bad", bad(p), api.ErrRange)
			turnsNothing(t, "no body", packet.Packet{Pid: pid}, api.ErrRange)
			turnsNothing(t, "a long body", packet.Packet{Pid: pid, Body: dots(185)}, api.ErrRange)
			continue
		}
		for _, count := range outside(15) {
			p.Count = count
			turnsNothing(t, "Count "+strconv.Itoa(count), p, api.ErrRange)
			turnsNothing(t, "Count, Bad", bad(p), api.ErrRange)
			turnsNothing(t, "Count, no body", packet.Packet{Pid: pid, Count: count}, api.ErrRange)
			turnsNothing(t, "Count, a long body", packet.Packet{Pid: pid, Count: count, Body: dots(185)}, api.ErrRange)
		}
		for _, long := range []int{185, 186, 188, 4096, 70000} {
			turnsNothing(t, "a long body", packet.Packet{Pid: pid, Count: 3, Body: dots(long)}, api.ErrFull)
			turnsNothing(t, "a long body, Start", packet.Packet{Pid: pid, Start: true, Count: 3, Body: "\x00" + of(1, long-1)}, api.ErrFull)
			turnsNothing(t, "a long body, Bad", packet.Packet{Pid: pid, Bad: true, Count: 3, Body: dots(long)}, api.ErrFull)
		}
	}
}

// P16.1: packets of another Pid, Null's too, whatever else is with them.
func TestFeedOfAnotherPid(t *testing.T) {
	for _, pid := range []int{0, 16, 18, 17 + 4096, 17 + 256, 8174, 8190, 8191} {
		for count := range 16 {
			p := packet.Packet{Pid: pid, Start: true, Count: count, Body: "\x00" + hi}
			turnsNothing(t, "Start", p, api.ErrKind)
			turnsNothing(t, "Bad", bad(p), api.ErrKind)
			turnsNothing(t, "no Start", packet.Packet{Pid: pid, Count: count, Body: hi[5:]}, api.ErrKind)
			turnsNothing(t, "no body", packet.Packet{Pid: pid, Count: count}, api.ErrKind)
			turnsNothing(t, "a body that may not be", packet.Packet{Pid: pid, Start: true, Count: count, Body: "\xff"}, api.ErrKind)
			turnsNothing(t, "as the one seen last", packet.Packet{Pid: pid, Start: true, Count: count, Body: "\x00" + hi[:5]}, api.ErrKind)
		}
	}
}

// P16.1: packets without a body, of any Count, Bad ones too.
func TestFeedWithoutABody(t *testing.T) {
	for count := range 16 {
		turnsNothing(t, "no body", next(count, ""), api.OK)
		turnsNothing(t, "no body, Start", first(count, ""), api.OK)
		turnsNothing(t, "no body, Bad", bad(next(count, "")), api.OK)
		turnsNothing(t, "no body, both", bad(first(count, "")), api.OK)
	}
}

// P16.1: packets with the Count and the body of the one seen last turn nothing, be Start and Bad as they may.
func TestFeedOfTheSame(t *testing.T) {
	long := of(1, 183)
	for _, body := range []string{"\x00" + hi[:5], "\x00" + hi[:5] + hi[:3], "\x00" + hi, "\x00\xff", "\x00", "\x00" + long, "\x02abc", "\x09abc"} {
		for count := range 16 {
			for _, start := range []bool{false, true} {
				x := both(t, 17)
				x.feed(t, first((count+15)%16, "\x00"+hi[:12]))
				p := packet.Packet{Pid: 17, Start: start, Count: count, Body: body}
				x.feed(t, p)
				held, lost := x.j.Held(), x.j.Lost()
				for _, q := range []packet.Packet{p, first(count, body), next(count, body), bad(first(count, body)), bad(next(count, body)), p} {
					if got := x.feed(t, q); !got.same(says(api.OK, held, lost)) {
						t.Fatalf("%s behind %s: %s", line(q), line(p), got.text())
					}
				}
				x.feed(t, next((count+1)%16, hi[5:]+hi))
			}
		}
	}
	runs(t, "by hand",
		step{p: first(5, "\x00"+hi[:5]), want: says(api.OK, hi[:5], 0)},
		step{p: bad(first(5, "\x00"+hi[:5])), want: says(api.OK, hi[:5], 0)},
		step{p: next(5, "\x00"+hi[:5]), want: says(api.OK, hi[:5], 0)},
		step{p: next(6, hi[5:9]), want: says(api.OK, hi[:9], 0)},
		step{p: next(6, hi[5:9]), want: says(api.OK, hi[:9], 0)},
		step{p: first(6, hi[5:9]), want: says(api.OK, hi[:9], 0)},
		step{p: bad(next(6, hi[5:9])), want: says(api.OK, hi[:9], 0)},
		step{p: next(7, hi[9:]), want: says(api.OK, "", 0, hi)},
		step{p: next(7, hi[9:]), want: says(api.OK, "", 0)},
	)
}

// P16.1: only the one seen last is the same: of the one ahead of it, and of the same Count or body alone, it is another one.
func TestFeedOfAlmostTheSame(t *testing.T) {
	begin := first(5, "\x00"+hi[:5])
	held := says(api.OK, hi[:5], 0)
	runs(t, "the Count, and another body", step{p: begin, want: held},
		step{p: next(5, hi[5:]), want: says(api.ErrLost, "", 1)},
		step{p: next(6, hi[5:]), want: says(api.OK, "", 1)})
	runs(t, "the Count, and another body, with Start", step{p: begin, want: held},
		step{p: first(5, "\x00"+hi[:6]), want: says(api.ErrLost, hi[:6], 1)},
		step{p: next(6, hi[6:]), want: says(api.OK, "", 1, hi)})
	runs(t, "the Count, and a body that is one byte longer", step{p: begin, want: held},
		step{p: next(5, "\x00"+hi[:6]), want: says(api.ErrLost, "", 1)})
	runs(t, "the Count, and a body that is one byte shorter", step{p: begin, want: held},
		step{p: first(5, "\x00"+hi[:4]), want: says(api.ErrLost, hi[:4], 1)})
	runs(t, "the body, and one Count more", step{p: begin, want: held},
		step{p: first(6, "\x00"+hi[:5]), want: held},
		step{p: first(7, "\x00"+hi[:5]), want: held},
		step{p: next(8, hi[5:]), want: says(api.OK, "", 0, hi)})
	runs(t, "the body, and one Count more, without Start", step{p: begin, want: held},
		step{p: next(6, hi[5:6]), want: says(api.OK, hi[:6], 0)},
		step{p: next(7, hi[5:6]), want: says(api.OK, hi[:6]+hi[5:6], 0)})
	runs(t, "the body, and two Counts more", step{p: begin, want: held},
		step{p: first(7, "\x00"+hi[:5]), want: says(api.ErrLost, hi[:5], 1)})
	runs(t, "the one ahead of it", step{p: begin, want: held},
		step{p: next(6, hi[5:9]), want: says(api.OK, hi[:9], 0)},
		step{p: begin, want: says(api.ErrLost, hi[:5], 1)},
		step{p: next(6, hi[5:9]), want: says(api.OK, hi[:9], 1)},
		step{p: next(7, hi[9:]), want: says(api.OK, "", 1, hi)})
}

// P16.1: a packet that is Bad: nothing is held, it follows no more, and Lost is one more; what it has seen is forgotten, so that no Count is missing behind it, and the one ahead of it is not the same.
func TestBad(t *testing.T) {
	begin, held := first(5, "\x00"+hi[:5]), says(api.OK, hi[:5], 0)
	gone := says(api.ErrLost, "", 1)
	for count := range 16 {
		for _, start := range []bool{false, true} {
			p := packet.Packet{Pid: 17, Start: start, Count: count, Bad: true, Body: "\x00" + hi}
			q := packet.Packet{Pid: 17, Start: start, Count: count, Bad: true, Body: hi[5:]}
			r := packet.Packet{Pid: 17, Start: start, Count: count, Bad: true, Body: "\x09abc"}
			runs(t, "first of all", step{p: p, want: gone}, step{p: q, want: says(api.ErrLost, "", 2)}, step{p: r, want: says(api.ErrLost, "", 3)})
			for _, b := range []packet.Packet{p, q, r} {
				runs(t, "it follows no more", step{p: begin, want: held}, step{p: b, want: gone},
					step{p: next((count+1)%16, hi[5:]), want: says(api.OK, "", 1)},
					step{p: next((count+2)%16, hi), want: says(api.OK, "", 1)},
					step{p: first((count+3)%16, "\x00"+hi), want: says(api.OK, "", 1, hi)})
				runs(t, "another Bad one, and the same", step{p: begin, want: held}, step{p: b, want: gone},
					step{p: b, want: says(api.ErrLost, "", 2)},
					step{p: b, want: says(api.ErrLost, "", 3)},
					step{p: begin, want: says(api.OK, hi[:5], 3)})
				runs(t, "the one ahead", step{p: begin, want: held}, step{p: b, want: gone},
					step{p: begin, want: says(api.OK, hi[:5], 1)},
					step{p: next(6, hi[5:]), want: says(api.OK, "", 1, hi)})
			}
		}
	}
	for count := range 16 {
		runs(t, "any Count behind it", step{p: begin, want: held}, step{p: bad(next(6, hi)), want: gone},
			step{p: first(count, "\x05"+hi[5:10]+hi[:7]), want: says(api.OK, hi[:7], 1)},
			step{p: next((count+1)%16, hi[7:]), want: says(api.OK, "", 1, hi)})
		runs(t, "any Count behind it, without Start", step{p: begin, want: held}, step{p: bad(next(6, hi)), want: gone},
			step{p: next(count, hi), want: says(api.OK, "", 1)},
			step{p: next((count+2)%16, hi), want: says(api.ErrLost, "", 2)})
	}
	runs(t, "without a body, and the same", step{p: begin, want: held},
		step{p: bad(next(6, "")), want: held},
		step{p: bad(begin), want: held},
		step{p: next(6, hi[5:]), want: says(api.OK, "", 0, hi)})
}

// P16.1: each Count behind each, with Start and without, in the midst of a section, and not.
func TestCounts(t *testing.T) {
	for ahead := range 16 {
		for count := range 16 {
			good := count == ahead+1 || ahead == 15 && count == 0
			begin := step{p: first(ahead, "\x00"+hi[:5]), want: says(api.OK, hi[:5], 0)}
			if !good {
				gone := says(api.ErrLost, "", 1)
				runs(t, "without Start", begin, step{p: next(count, hi[5:]), want: gone},
					step{p: next((count+1)%16, hi[5:]+hi), want: says(api.OK, "", 1)},
					step{p: first((count+2)%16, "\x05"+hi[:5]+hi), want: says(api.OK, "", 1, hi)})
				runs(t, "with Start", begin, step{p: first(count, "\x09"+hi[5:]+hi+hi[:4]), want: says(api.ErrLost, hi[:4], 1, hi)},
					step{p: next((count+1)%16, hi[4:]), want: says(api.OK, "", 1, hi)})
				runs(t, "where it does not follow", step{p: next(ahead, hi), want: says(api.OK, "", 0)}, step{p: next(count, hi[5:]), want: gone},
					step{p: next((count+2)%16, hi[5:]+hi), want: says(api.ErrLost, "", 2)})
				continue
			}
			runs(t, "without Start", begin, step{p: next(count, hi[5:]), want: says(api.OK, "", 0, hi)},
				step{p: next((count+1)%16, hi[:4]), want: says(api.OK, hi[:4], 0)})
			runs(t, "with Start", begin, step{p: first(count, "\x09"+hi[5:]+hi+hi[:4]), want: says(api.OK, hi[:4], 0, hi, hi)},
				step{p: next((count+1)%16, hi[4:]), want: says(api.OK, "", 0, hi)})
			runs(t, "where it does not follow", step{p: next(ahead, hi), want: says(api.OK, "", 0)}, step{p: next(count, hi[5:]), want: says(api.OK, "", 0)})
		}
	}
}

// P16.1, P16.2: where both ErrLost and ErrForm could be, ErrForm is answered, and Lost is one more; the sections are there beside both.
func TestFormAheadOfLost(t *testing.T) {
	begin, held := first(5, "\x00"+hi[:5]), says(api.OK, hi[:5], 0)
	form := "\x42\x30\x0b"
	for _, x := range []struct {
		name string
		p    packet.Packet
		want answer
	}{
		{"a first byte that tells too much", first(7, "\x05abcd"), says(api.ErrForm, "", 1)},
		{"no section behind Start", first(7, "\x00"+form), says(api.ErrForm, "", 1)},
		{"a section, and none", first(7, "\x00"+hi+form), says(api.ErrForm, "", 1, hi)},
		{"sections, and none", first(7, "\x02..\x42\xb0\x09.........."[:15]+hi+form+hi), says(api.ErrForm, "", 1, "\x42\xb0\x09.........", hi)},
		{"none in what is not taken", first(7, "\x03"+form+hi), says(api.ErrLost, "", 1, hi)},
		{"none without Start", next(7, form+hi), says(api.ErrLost, "", 1)},
		{"a section alone", first(7, "\x00"+hi), says(api.ErrLost, "", 1, hi)},
		{"a section's beginning", first(7, "\x00"+hi[:3]), says(api.ErrLost, hi[:3], 1)},
		{"nothing behind the first byte", first(7, "\x00"), says(api.ErrLost, "", 1)},
		{"the same Count", first(5, "\x00"+hi+form), says(api.ErrForm, "", 1, hi)},
	} {
		runs(t, x.name, step{p: begin, want: held}, step{p: x.p, want: x.want})
		if x.want.e == api.ErrForm {
			// It follows no more, and has seen the Count.
			runs(t, x.name+", behind it", step{p: begin, want: held}, step{p: x.p, want: x.want},
				step{p: next((x.p.Count+1)%16, hi), want: says(api.OK, "", 1)},
				step{p: first((x.p.Count+2)%16, "\x00"+hi), want: says(api.OK, "", 1, hi)})
		}
	}
}

// P16.2: Drop in the midst of a section, twice, at first, and behind what was lost: nothing is held, it follows no more, and what it has seen is forgotten; Lost stays.
func TestDrop(t *testing.T) {
	begin, held := first(5, "\x00"+hi[:5]), says(api.OK, hi[:5], 0)
	runs(t, "a packet without Start", step{p: begin, want: held},
		step{drop: true, p: next(6, hi[5:]), want: says(api.OK, "", 0)},
		step{p: next(7, hi), want: says(api.OK, "", 0)},
		step{p: first(8, "\x00"+hi), want: says(api.OK, "", 0, hi)})
	for count := range 16 {
		runs(t, "any Count", step{p: begin, want: held},
			step{drop: true, p: next(count, hi[5:]), want: says(api.OK, "", 0)},
			step{drop: true, p: first(count, "\x09"+hi[5:]+hi[:7]), want: says(api.OK, hi[:7], 0)},
			step{p: next((count+1)%16, hi[7:]), want: says(api.OK, "", 0, hi)})
	}
	runs(t, "the one seen last", step{p: begin, want: held},
		step{drop: true, p: begin, want: held},
		step{p: next(6, hi[5:]), want: says(api.OK, "", 0, hi)},
		step{drop: true, p: next(6, hi[5:]), want: says(api.OK, "", 0)},
		step{drop: true, p: bad(next(6, hi[5:])), want: says(api.ErrLost, "", 1)},
		step{drop: true, p: begin, want: says(api.OK, hi[:5], 1)})
	runs(t, "at first", step{drop: true, p: begin, want: held}, step{p: next(6, hi[5:]), want: says(api.OK, "", 0, hi)})
	runs(t, "behind a section", step{p: first(5, "\x00"+hi), want: says(api.OK, "", 0, hi)},
		step{drop: true, p: next(6, hi), want: says(api.OK, "", 0)})
	runs(t, "Lost stays", step{p: begin, want: held},
		step{p: first(9, "\x00"+hi[:7]), want: says(api.ErrLost, hi[:7], 1)},
		step{drop: true, p: next(3, hi[7:]), want: says(api.OK, "", 1)},
		step{p: next(3, hi), want: says(api.ErrLost, "", 2)},
		step{drop: true, p: begin, want: says(api.OK, hi[:5], 2)})
	x := both(t, 17)
	x.feed(t, begin)
	x.drop(t)
	x.drop(t)
	if got := x.feed(t, begin); !got.same(held) {
		t.Error("twice:", got.text())
	}
	x.feed(t, first(9, "\x00"+hi[:7]))
	x.drop(t)
	x.drop(t)
	if got := x.feed(t, next(10, hi[7:])); !got.same(says(api.OK, "", 1)) {
		t.Error("twice, lost:", got.text())
	}
}

// bytesFed is what Bytes answers.
func bytesFed(j *joiner.Joiner, s string) answer {
	l, e := j.Bytes(s)
	return answer{l, e, j.Held(), j.Lost()}
}

// P16.2: Bytes, of fewer and more than 188, and of others of which packet.Decode tells an error: nothing is turned.
func TestBytesThatMayNotBe(t *testing.T) {
	good := "\x47\x40\x11\x16" + "\x00" + of(1, 183)
	empty := "\x47\x00\x11\x26\xb7\x00" + ones(182)
	for s, want := range map[string]api.Errno{
		"": api.ErrShort, "\x47": api.ErrShort, good[:187]: api.ErrShort, good[1:]: api.ErrShort, good + "x": api.ErrLong, good + good: api.ErrLong, dots(187): api.ErrShort, dots(189): api.ErrLong,
		"\x46" + good[1:]: api.ErrSync, dots(188): api.ErrSync,
		good[:3] + "\x06" + good[4:]: api.ErrForm, "\x47\x40\x11\x36\xb7" + good[5:]: api.ErrForm, "\x47\x40\x11\x26\xb6" + good[5:]: api.ErrForm, // neither a body nor an adaptation; adaptations that may not be
		"\x47\x40\x12" + good[3:]: api.ErrKind, "\x47\x5f\xff" + good[3:]: api.ErrKind, // other Pids: Feed's
		empty: api.OK,
	} {
		x := both(t, 17)
		if got := bytesFed(x.j, s); !got.same(says(want, "", 0)) {
			t.Errorf("%s: %s, not %v", brief(s), got.text(), want)
		}
		x.feed(t, first(5, "\x00"+hi[:5]))
		x.feed(t, first(7, "\x00"+hi[:6]))
		for range 2 {
			if got := bytesFed(x.j, s); !got.same(says(want, hi[:6], 1)) {
				t.Errorf("%s: %s, not %v", brief(s), got.text(), want)
			}
		}
		if got := x.feed(t, first(7, "\x00"+hi[:6])); !got.same(says(api.OK, hi[:6], 1)) {
			t.Errorf("%s, behind it: %s", brief(s), got.text())
		}
		if got := x.feed(t, next(8, hi[6:])); !got.same(says(api.OK, "", 1, hi)) {
			t.Errorf("%s, behind it: %s", brief(s), got.text())
		}
	}
}

// P16.2: Bytes is Feed of the packet: by hand, of bodies of 184 bytes and fewer, of a repeated one, a Bad one, and of one that is missing.
func TestBytes(t *testing.T) {
	j, _ := joiner.New(17)
	a := of(1, 250)
	for k, x := range []struct {
		s    string
		want answer
	}{
		{"\x47\x40\x11\x1e\x00" + a[:183], says(api.OK, a[:183], 0)},
		{"\x47\x40\x11\x1e\x00" + a[:183], says(api.OK, a[:183], 0)},
		{"\x47\x00\x11\x3f\x74\x00" + ones(115) + a[183:], says(api.OK, "", 0, a)},
		{"\x47\x00\x11\x10" + a[:184], says(api.OK, a[:184], 0)},
		{"\x47\x40\x11\x31\x6f\x00" + ones(110) + "\x42" + a[184:] + hi[:5], says(api.OK, hi[:5], 0, a)},
		{"\x47\x40\x11\x12\x42" + a[184:] + hi + ones(103), says(api.ErrForm, "", 0, hi[:5]+a[184:193], hi)},
		{"\x47\x40\x11\x33\xb2\x00" + ones(177) + "\x00" + hi[:4], says(api.OK, hi[:4], 0)},
		{"\x47\x80\x11\x34\xad\x00" + ones(172) + hi[4:], says(api.ErrLost, "", 1)},
		{"\x47\x40\x11\x39\xb2\x00" + ones(177) + "\x00" + hi[:4], says(api.OK, hi[:4], 1)},
		{"\x47\x40\x11\x3b\xb2\x00" + ones(177) + "\x00" + hi[:4], says(api.ErrLost, hi[:4], 2)},
	} {
		if len(x.s) != 188 {
			t.Fatalf("%d: %d bytes", k, len(x.s))
		}
		if got := bytesFed(j, x.s); !got.same(x.want) {
			t.Errorf("%d: %s, not %s", k, got.text(), x.want.text())
		}
	}
	s := noise(3)
	x := both(t, 17)
	for range 3000 {
		p := s.packet(x.s)
		text, e := packet.Encode(p)
		if e != api.OK {
			t.Fatal(e)
		}
		l, e := x.s.feed(p)
		if got, want := bytesFed(x.j, text), (answer{l, e, x.s.held(), x.s.lost}); !got.same(want) {
			t.Fatalf("%s: %s, not %s", line(p), got.text(), want.text())
		}
	}
}

// P16.2: the calls of a nil joiner: ErrNil ahead of all that else is wrong, nothing, and 0.
func TestNil(t *testing.T) {
	var j *joiner.Joiner
	for _, p := range []packet.Packet{{}, first(3, "\x00"+hi), {Pid: -1}, {Pid: 8191}, {Count: 16}, bad(next(3, hi)), {Body: dots(185)}} {
		if got := fed(j, p); !got.same(says(api.ErrNil, "", 0)) {
			t.Errorf("%s: %s", line(p), got.text())
		}
	}
	for _, s := range []string{"", dots(187), dots(188), "\x47\x40\x11\x16\x00" + of(1, 183), "\x47\x40\x11\x16\x00" + of(1, 184)} {
		if got := bytesFed(j, s); !got.same(says(api.ErrNil, "", 0)) {
			t.Errorf("%s: %s", brief(s), got.text())
		}
	}
	j.Drop()
	j.Drop()
	if j.Held() != "" || j.Lost() != 0 {
		t.Error(j.Held(), j.Lost())
	}
}
