package joiner_test

import (
	"slices"
	"strings"
	"testing"

	"clarion/api"
	"clarion/packet"
)

// form is bytes of which section.Need tells an error.
const form = "\x42\x30\x0b"

// takes holds what is taken, behind what is held at first, against answers by hand, taken in each way: at once behind a packet's first byte, behind what another packet has begun, with Start as what is left of it, and byte by byte; follows tells whether it is in the midst of sections behind that.
func takes(t *testing.T, name, text string, e api.Errno, held string, follows bool, l ...string) {
	t.Helper()
	want := says(e, held, 0, l...)
	behind := func(count int) step {
		// In the midst of sections this is what is left of a section, or a whole one.
		if !follows {
			return step{p: next(count, hi), want: says(api.OK, "", 0)}
		}
		rest := hi
		if held != "" {
			rest = whole(held)[len(held):]
		}
		return step{p: next(count, rest), want: says(api.OK, "", 0, held+rest)}
	}
	runs(t, name+", at once", step{p: first(3, "\x00"+text), want: want}, behind(4))
	// Without bytes it is no packet that is seen.
	runs(t, name+", without Start", step{p: first(2, "\x00"), want: says(api.OK, "", 0)}, step{p: next(3, text), want: want}, behind(3+min(len(text), 1)))
	// What is held behind the bytes of which a packet with Start tells is let go, and it follows.
	runs(t, name+", with Start", step{p: first(2, "\x00"), want: says(api.OK, "", 0)}, step{p: first(3, one(len(text))+text), want: says(e, "", 0, l...)},
		step{p: next(4, hi), want: says(api.OK, "", 0, hi)})
	runs(t, name+", with Start, and more", step{p: first(2, "\x00"), want: says(api.OK, "", 0)}, step{p: first(3, one(len(text))+text+hi+hi[:5]), want: says(e, hi[:5], 0, append(slices.Clone(l), hi)...)},
		step{p: next(4, hi[5:]), want: says(api.OK, "", 0, hi)})
	byByte(t, name, text, want, behind)
}

// byByte holds the same against what is answered byte by byte.
func byByte(t *testing.T, name, text string, want answer, behind func(int) step) {
	t.Helper()
	x := both(t, 17)
	x.feed(t, first(0, "\x00"))
	got := answer{}
	for k := range len(text) {
		now := x.feed(t, next((k+1)%16, text[k:k+1]))
		if now.e != api.OK {
			got.e = now.e
		}
		got.l, got.held, got.lost = append(got.l, now.l...), now.held, now.lost
	}
	if !got.same(want) {
		t.Errorf("%s, byte by byte: %s, not %s", name, got.text(), want.text())
	}
	s := behind((len(text) + 1) % 16)
	if got := x.feed(t, s.p); !got.same(s.want) {
		t.Errorf("%s, byte by byte, behind it: %s, not %s", name, got.text(), s.want.text())
	}
}

// whole is a section that begins with such bytes.
func whole(held string) string {
	text := held + "\x42\xb0\x0b"[min(len(held), 3):]
	return text + dots(3+int(text[1])%16*256+int(text[2])-len(text))
}

// P16.1: bytes that are taken, by name.
func TestTakeByName(t *testing.T) {
	a, b := of(1, 20), of(2, 30)
	takes(t, "none", "", api.OK, "", true)
	takes(t, "255", "\xff", api.OK, "", false)
	takes(t, "255 twice", "\xff\xff", api.OK, "", false)
	takes(t, "255, and such as begin a section", "\xff\xb0\x0b", api.OK, "", false)
	takes(t, "255, and a section", "\xff"+a, api.OK, "", false)
	takes(t, "255, and no section", "\xff"+form, api.OK, "", false)
	takes(t, "one", "\x42", api.OK, "\x42", true)
	takes(t, "one, 254", "\xfe", api.OK, "\xfe", true)
	takes(t, "one, 0", "\x00", api.OK, "\x00", true)
	takes(t, "two", "\x42\xb0", api.OK, "\x42\xb0", true)
	takes(t, "three", "\x42\xb0\x0b", api.OK, "\x42\xb0\x0b", true)
	takes(t, "three, with bytes 255 behind the first one", "\x42\xff\xff", api.ErrForm, "", false)
	takes(t, "three that are no section's", form, api.ErrForm, "", false)
	takes(t, "a section without its last byte", a[:19], api.OK, a[:19], true)
	takes(t, "a section", a, api.OK, "", true, a)
	takes(t, "a section, and a byte", a+"\x42", api.OK, "\x42", true, a)
	takes(t, "a section, and two", a+"\x42\xf0", api.OK, "\x42\xf0", true, a)
	takes(t, "a section, and three", a+b[:3], api.OK, b[:3], true, a)
	takes(t, "a section, and 255", a+"\xff", api.OK, "", false, a)
	takes(t, "a section, 255, and a section", a+"\xff"+b, api.OK, "", false, a)
	takes(t, "a section, and none", a+form, api.ErrForm, "", false, a)
	takes(t, "a section, none, and a section", a+form+b, api.ErrForm, "", false, a)
	takes(t, "two sections", a+b, api.OK, "", true, a, b)
	takes(t, "two sections, the same ones", a+a, api.OK, "", true, a, a)
	takes(t, "two sections, and none", b+a+form, api.ErrForm, "", false, b, a)
	takes(t, "two sections, the last one without its last byte", a+b[:29], api.OK, b[:29], true, a)
	takes(t, "two sections, and 255", a+b+ones(9), api.OK, "", false, a, b)
	takes(t, "255 in a section, not at its beginning", "\x42\xb0\x0b"+ones(11)+a, api.OK, "", true, "\x42\xb0\x0b"+ones(11), a)
	takes(t, "the least section", of(3, 12), api.OK, "", true, of(3, 12))
	takes(t, "many", strings.Repeat(of(3, 12), 9), api.OK, "", true, of(3, 12), of(3, 12), of(3, 12), of(3, 12), of(3, 12), of(3, 12), of(3, 12), of(3, 12), of(3, 12))
	takes(t, "a check sum that is none", hi[:13]+"x", api.OK, "", true, hi[:13]+"x")
}

// P16.1: the bits behind the first byte, and the length, each of which may be, and may not: what Need tells an error of is none.
func TestTakeOfEachHead(t *testing.T) {
	for n := range 1 << 16 {
		head := "\x42" + one(n/256) + one(n)
		x := both(t, 17)
		got := x.feed(t, first(3, "\x00"+head+dots(20)))
		length := n % 4096
		switch good := n>>15 == 1 && n>>12&3 == 3 && length >= 9 && length <= 4093; {
		case !good && !got.same(says(api.ErrForm, "", 0)):
			t.Fatalf("%q: %s", head, got.text())
		case good && length > 20 && !got.same(says(api.OK, head+dots(20), 0)):
			t.Fatalf("%q: %s", head, got.text())
		case good && length == 20 && !got.same(says(api.OK, "", 0, head+dots(20))):
			t.Fatalf("%q: %s", head, got.text())
		case good && length < 18 && !got.same(says(api.ErrForm, "", 0, head+dots(length))):
			t.Fatalf("%q: %s", head, got.text())
		}
	}
	for table := range 256 {
		x := both(t, 17)
		want := says(api.OK, one(table)+hi[1:5], 0)
		if table == 255 {
			want = says(api.OK, "", 0)
		}
		if got := x.feed(t, first(3, "\x00"+one(table)+hi[1:5])); !got.same(want) {
			t.Fatalf("table %d: %s", table, got.text())
		}
	}
}

// P16.1: a packet without Start, where it follows, and where it does not: at first, behind bytes 255, behind what is no section, and behind what is missing.
func TestWithoutStart(t *testing.T) {
	a := of(1, 20)
	runs(t, "at first", step{p: next(3, a), want: says(api.OK, "", 0)}, step{p: next(4, a[:9]), want: says(api.OK, "", 0)}, step{p: next(5, form), want: says(api.OK, "", 0)}, step{p: next(6, "\xff"), want: says(api.OK, "", 0)},
		step{p: first(7, "\x00"+a), want: says(api.OK, "", 0, a)})
	runs(t, "behind 255", step{p: first(3, "\x00\xff"), want: says(api.OK, "", 0)}, step{p: next(4, a), want: says(api.OK, "", 0)}, step{p: next(5, form), want: says(api.OK, "", 0)})
	runs(t, "behind no section", step{p: first(3, "\x00"+form), want: says(api.ErrForm, "", 0)}, step{p: next(4, a), want: says(api.OK, "", 0)}, step{p: next(5, form), want: says(api.OK, "", 0)})
	runs(t, "behind a first byte that tells too much", step{p: first(3, "\x00"+a[:9]), want: says(api.OK, a[:9], 0)}, step{p: first(4, "\x0c"+a[9:]), want: says(api.ErrForm, "", 0)}, step{p: next(5, a), want: says(api.OK, "", 0)})
	runs(t, "behind what is missing", step{p: first(3, "\x00"+a), want: says(api.OK, "", 0, a)}, step{p: next(5, a), want: says(api.ErrLost, "", 1)}, step{p: next(6, a), want: says(api.OK, "", 1)})
	runs(t, "where it follows, and holds nothing", step{p: first(3, "\x00"+a), want: says(api.OK, "", 0, a)}, step{p: next(4, a), want: says(api.OK, "", 0, a)}, step{p: next(5, a+a[:2]), want: says(api.OK, a[:2], 0, a)}, step{p: next(6, a[2:]+"\xff"), want: says(api.OK, "", 0, a)}, step{p: next(7, a), want: says(api.OK, "", 0)})
	runs(t, "where it follows, no section", step{p: first(3, "\x00"+a[:2]), want: says(api.OK, a[:2], 0)}, step{p: next(4, "\x08"), want: says(api.ErrForm, "", 0)}, step{p: next(5, a), want: says(api.OK, "", 0)})
	runs(t, "its first byte tells nothing", step{p: first(3, "\x00"+a[:9]), want: says(api.OK, a[:9], 0)}, step{p: next(4, a[9:10]), want: says(api.OK, a[:10], 0)}, step{p: next(5, a[10:]), want: says(api.OK, "", 0, a)})
}

// P16.1: the first byte of a body with Start: 0, as many as follow it, and one more, where it follows and where it does not, by hand; what a section that is not at its end has is let go.
func TestStartByName(t *testing.T) {
	a := of(1, 20)
	none := says(api.OK, "", 0)
	begun := step{p: first(3, "\x00"+a[:9]), want: says(api.OK, a[:9], 0)}
	for count := range 3 {
		// Where it does not follow: at first, and behind packets without Start.
		var ahead []step
		for k := range count {
			ahead = append(ahead, step{p: next(4-count+k, a), want: none})
		}
		alone := func(name, body string, want answer, behind ...step) {
			runs(t, name+", where it does not follow", append(append(slices.Clone(ahead), step{p: first(4, body), want: want}), behind...)...)
		}
		follows, not := step{p: next(5, a), want: says(api.OK, "", 0, a)}, step{p: next(5, a), want: none}
		alone("0 alone", "\x00", none, follows)
		alone("0", "\x00"+a, says(api.OK, "", 0, a), follows)
		alone("as many as follow", "\x14"+a, none, follows)
		alone("one fewer", "\x13"+a, says(api.OK, a[19:], 0))
		alone("one more", "\x15"+a, says(api.ErrForm, "", 0), not)
		alone("one more than none", "\x01", says(api.ErrForm, "", 0), not)
		alone("255", "\xff"+a, says(api.ErrForm, "", 0), not)
		alone("such as are no section", "\x03"+form+a, says(api.OK, "", 0, a), follows)
	}
	follows, not := step{p: next(5, a), want: says(api.OK, "", 0, a)}, step{p: next(5, a), want: none}
	runs(t, "0 alone", begun, step{p: first(4, "\x00"), want: none}, follows)
	runs(t, "0", begun, step{p: first(4, "\x00"+a), want: says(api.OK, "", 0, a)}, follows)
	runs(t, "0, and the rest", begun, step{p: first(4, "\x00"+a[9:]), want: says(api.ErrForm, "", 0)}, not)
	runs(t, "as many as follow", begun, step{p: first(4, "\x0b"+a[9:]), want: says(api.OK, "", 0, a)}, follows)
	runs(t, "as many as follow, and more", begun, step{p: first(4, "\x0b"+a[9:]+a+a[:2]), want: says(api.OK, a[:2], 0, a, a)})
	runs(t, "one fewer", begun, step{p: first(4, "\x0a"+a[9:19]+a), want: says(api.OK, "", 0, a)}, follows)
	runs(t, "one fewer, and the rest", begun, step{p: first(4, "\x0a"+a[9:]), want: says(api.OK, a[19:], 0)})
	runs(t, "one more", begun, step{p: first(4, "\x0c"+a[9:]), want: says(api.ErrForm, "", 0)}, not)
	runs(t, "one more than none", begun, step{p: first(4, "\x01"), want: says(api.ErrForm, "", 0)}, not)
	runs(t, "more than the section has", begun, step{p: first(4, "\x0d"+a[9:]+a), want: says(api.ErrForm, "", 0, a)}, not)
	runs(t, "and a section", begun, step{p: first(4, "\x1f"+a[9:]+a), want: says(api.OK, "", 0, a, a)}, follows)
	runs(t, "and 255", begun, step{p: first(4, "\x0d"+a[9:]+"\xff\xff"+a), want: says(api.OK, "", 0, a, a)}, follows)
	runs(t, "and no section", begun, step{p: first(4, "\x0e"+a[9:]+form+a+a[:4]), want: says(api.ErrForm, a[:4], 0, a, a)}, step{p: next(5, a[4:]), want: says(api.OK, "", 0, a)})
	runs(t, "and no section, twice", begun, step{p: first(4, "\x0e"+a[9:]+form+a+form), want: says(api.ErrForm, "", 0, a, a)}, not)
	runs(t, "no section behind it", begun, step{p: first(4, "\x0b"+a[9:]+form), want: says(api.ErrForm, "", 0, a)}, not)
	runs(t, "the one seen last, whatever is wrong with it", begun, step{p: first(4, "\x0c"+a[9:]), want: says(api.ErrForm, "", 0)}, step{p: first(4, "\x0c"+a[9:]), want: none}, step{p: first(5, "\x00"+a), want: says(api.OK, "", 0, a)})
}

// P16.1: each first byte, of bodies of each length, in the midst of sections of several lengths, and not, by the words.
func TestEachFirstByte(t *testing.T) {
	for long := 1; long <= 184; long++ {
		for r := range 256 {
			s := noise(long*256 + r)
			text := (s.section(max(r, 12)) + s.section(40) + s.section(150))[max(12-r, 0):]
			p := first(4, (one(r) + text)[:long])
			for ahead := range 3 {
				x := both(t, 17)
				switch ahead {
				case 1:
					x.feed(t, first(3, "\x00"))
				case 2:
					x.feed(t, first(3, "\x00"+of(1, 20+r)[:20]))
				}
				got := x.feed(t, p)
				if wrong := r >= long; wrong && !got.same(says(api.ErrForm, "", 0)) {
					t.Fatalf("%s, %d: %s", line(p), ahead, got.text())
				}
				x.feed(t, next(5, hi))
			}
		}
	}
}

// P16.1, P16.3: a section of each length that ends just with a packet's end, one byte ahead of it, and one behind; what is held is fewer than 4096 bytes.
func TestEachLength(t *testing.T) {
	for long := 12; long <= 4096; long++ {
		a := of(1+long%250, long)
		x := both(t, 17)
		count, rest := 5, a
		for rest != "" {
			// The last packet but one has just so many that one is left.
			n := min(184, max(len(rest)-1, 1))
			p := next(count, rest[:n])
			if len(rest) == long {
				n = min(n, 183)
				p = first(count, "\x00"+rest[:n])
			}
			rest, count = rest[n:], (count+1)%16
			want := says(api.OK, a[:long-len(rest)], 0)
			if rest == "" {
				want = says(api.OK, "", 0, a)
			}
			if got := fed(x.j, p); !got.same(want) || len(got.held) >= 4096 {
				t.Fatalf("%d bytes, %d left: %s", long, len(rest), got.text())
			}
		}
		if got := fed(x.j, next(count, a[:1])); !got.same(says(api.OK, a[:1], 0)) {
			t.Fatalf("%d bytes, and a byte: %s", long, got.text())
		}
	}
}

// P16.3: of the greatest section, byte by byte, up to 4095 are held; one byte more, and it is answered. One that tells a byte more is none.
func TestMostHeld(t *testing.T) {
	a := of(7, 4096)
	x := both(t, 17)
	fed(x.j, first(15, "\x00"))
	for k := range len(a) {
		got := fed(x.j, next(k%16, a[k:k+1]))
		if want := says(api.OK, a[:k+1], 0); k < 4095 && !got.same(want) {
			t.Fatalf("%d: %s", k, got.text())
		}
		if k == 4095 && !got.same(says(api.OK, "", 0, a)) {
			t.Fatal(got.text())
		}
	}
	runs(t, "4097", step{p: first(3, "\x00\x42\xbf\xfe"), want: says(api.ErrForm, "", 0)}, step{p: next(4, hi), want: says(api.OK, "", 0)})
}

// P16.1, P16.2, P16.3: any packets, by the words; what is answered are sections, and fewer than 4096 bytes are held.
func TestAnyPackets(t *testing.T) {
	seen := map[api.Errno]int{}
	sections, same := 0, 0
	for run := range 300 {
		s := noise(100 + run)
		x := both(t, 17)
		for range 150 {
			p := s.packet(x.s)
			switch s.below(60) {
			case 0:
				p.Count += 16
			case 1:
				p.Body += dots(185)
			case 2:
				p.Pid = 8192
			case 3:
				x.drop(t)
			}
			if x.s.seen && p.Pid == 17 && p.Body == x.s.body && p.Count == x.s.count {
				same++
			}
			got := x.feed(t, p)
			seen[got.e]++
			sections += len(got.l)
			for _, text := range got.l {
				if l, left, stop, wrong := ends(text); len(l) != 1 || left != "" || stop || wrong {
					t.Fatalf("%s: %s", line(p), got.text())
				}
			}
			if len(got.held) >= 4096 {
				t.Fatalf("%s: %d bytes are held", line(p), len(got.held))
			}
		}
	}
	for _, e := range []api.Errno{api.OK, api.ErrRange, api.ErrFull, api.ErrKind, api.ErrLost, api.ErrForm} {
		if seen[e] < 300 {
			t.Error("too few of a kind:", e, seen[e])
		}
	}
	if sections < 20000 || same < 300 {
		t.Error("too few:", sections, same)
	}
}

// P16.1: any bytes at all, by the words.
func TestAnyBytes(t *testing.T) {
	for run := range 300 {
		s := noise(1000 + run)
		x := both(t, 17)
		for k := range 60 {
			body := s.text(s.below(185))
			if s.below(2) == 0 && len(body) > 0 {
				body = one(s.below(len(body))) + body[1:]
			}
			x.feed(t, packet.Packet{Pid: 17, Start: s.below(3) > 0, Count: k % 16, Bad: s.below(20) == 0, Body: body})
		}
	}
}
