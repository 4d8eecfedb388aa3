package packer_test

import (
	"math"
	"strings"
	"testing"

	"clarion/api"
	"clarion/packer"
	"clarion/packet"
	"clarion/section"
)

// The calls as the chapter lists them: with another signature this file does not build.
var (
	_ func(string) api.Errno                                      = packer.Check
	_ func(int, int, ...string) ([]packet.Packet, int, api.Errno) = packer.Pack
	_ func(...packet.Packet) (string, api.Errno)                  = packer.Bytes
	_ func(...int) int                                            = packer.Many
)

// hi is chapter 8's example of a section: 14 bytes.
const hi = "\x42\xb0\x0b\x00\x00\xc1\x00\x00hi\xdd\x19\x5b\x41"

// The chapter's example, as it stands there.
func TestExamples(t *testing.T) {
	if s, e := section.Encode(section.Section{Table: 66, Now: true, Body: "hi"}); s != hi || e != api.OK {
		t.Fatalf("%q, %v", s, e)
	}
	want := packs{[]packet.Packet{{Pid: 17, Start: true, Count: 3, Body: "\x00" + hi + ones(169)}}, 4, api.OK}
	if got := packed(17, 3, hi); !got.same(want) {
		t.Error(got.text())
	}
}

// checks holds Check, and Pack of that section alone and behind another one, against an error.
func checks(t *testing.T, s string, want api.Errno) {
	t.Helper()
	if got := packer.Check(s); got != want {
		t.Errorf("%d bytes %.12q: %v, not %v", len(s), s, got, want)
	}
	for _, l := range [][]string{{s}, {hi, s}, {s, hi}, {hi, hi, s, hi}} {
		if got := packed(17, 3, l...); got.e != want || want != api.OK && !got.same(packs{e: want}) {
			t.Errorf("%d bytes %.12q, of %d: %s, not %v", len(s), s, len(l), got.text(), want)
		}
	}
}

// P15.1: the edges by name: of no bytes, of fewer than Need wants, of such of which it tells an error, of fewer than it says, of so many, of more, and of a first byte of 255.
func TestCheckByName(t *testing.T) {
	for s, want := range map[string]api.Errno{
		"": api.ErrShort, "\x42": api.ErrShort, "\x42\xb0": api.ErrShort, "\xff": api.ErrShort, "\xff\xff": api.ErrShort, "ab": api.ErrShort, // Need wants three
		"\x42\xb0\x0b": api.ErrShort, hi[:12]: api.ErrShort, hi[:13]: api.ErrShort,
		hi: api.OK, hi + "x": api.ErrLong, hi + "\xff": api.ErrLong, hi + hi: api.ErrLong,
		"\xff" + hi[1:]: api.ErrForm, "\xfe" + hi[1:]: api.OK, "\x00" + hi[1:]: api.OK, "\x7f" + hi[1:]: api.OK,
		put(hi, 1, 0x30): api.ErrForm, put(hi, 1, 0x90): api.ErrForm, put(hi, 1, 0xa0): api.ErrForm, put(hi, 1, 0xf0): api.OK, // the bits behind Table
		"\x42\xb0\x08" + dots(8): api.ErrForm, "\x42\xb0\x08": api.ErrForm, "\x42\xb0\x09" + dots(9): api.OK, "\x42\xb0\x00": api.ErrForm,
		"\x42\xbf\xfd" + dots(4093): api.OK, "\x42\xbf\xfe" + dots(4094): api.ErrForm, "\x42\xbf\xff" + dots(4095): api.ErrForm, "\x42\xbf\xff": api.ErrForm,
		put(hi, 13, 0): api.OK, // a check sum that is none is not asked for
		"abcdefghijkl": api.ErrForm, dots(5000): api.ErrForm,
	} {
		checks(t, s, want)
	}
}

// P15.1: several things are wrong: what is named first is told (R1).
func TestCheckOfSeveralWrong(t *testing.T) {
	bad := "\xff" + hi[1:]
	for s, want := range map[string]api.Errno{
		bad[:13]: api.ErrShort, bad[:3]: api.ErrShort, bad + "x": api.ErrLong, bad + bad: api.ErrLong, bad[:2]: api.ErrShort, // and a first byte of 255
		put(hi, 1, 0x30)[:13]: api.ErrForm, put(hi, 1, 0x30) + "x": api.ErrForm, put(hi, 1, 0x30)[:2]: api.ErrShort, // and Need's error
		"\x42\xb0\x08" + dots(7): api.ErrForm, "\x42\xb0\x08" + dots(9): api.ErrForm, "\xff\xb0\x08" + dots(9): api.ErrForm,
	} {
		checks(t, s, want)
	}
}

// P15.1: each size that may be, with one byte fewer and with one more, of tables at the ends.
func TestCheckOfEachSize(t *testing.T) {
	for n := 12; n <= 4096; n++ {
		for _, table := range []int{0, 1, 0x47, 254, 255} {
			s := of(table, n)
			want := api.OK
			if table == 255 {
				want = api.ErrForm
			}
			if got := packer.Check(s); got != want {
				t.Fatalf("%d bytes, table %d: %v", n, table, got)
			}
			if got := packer.Check(s[:n-1]); got != api.ErrShort {
				t.Fatalf("%d bytes, table %d, without the last one: %v", n, table, got)
			}
			if got := packer.Check(s + "x"); got != api.ErrLong {
				t.Fatalf("%d bytes, table %d, and one: %v", n, table, got)
			}
		}
	}
}

// P15.1: each of the first three bytes, and what stands behind them, by the words.
func TestCheckOfEachHead(t *testing.T) {
	for first := range 256 {
		checks(t, one(first)+hi[1:], slowCheck(one(first)+hi[1:]))
	}
	for n := range 1 << 16 {
		head := "\x42" + one(n/256) + one(n)
		for _, s := range []string{head, head + dots(n%4096), head + dots(max(n%4096-1, 0)), head + dots(n%4096+1)} {
			if got, want := packer.Check(s), slowCheck(s); got != want {
				t.Fatalf("%d bytes %.12q: %v, not %v", len(s), s, got, want)
			}
		}
	}
}

// P15.1: any bytes, by the words.
func TestCheckOfAny(t *testing.T) {
	s := noise(3)
	seen := map[api.Errno]int{}
	for range 20000 {
		text := s.section(12 + s.below(60))
		switch s.below(5) {
		case 0:
			text = text[:s.below(len(text))]
		case 1:
			text += s.text(1 + s.below(3))
		case 2:
			text = put(text, s.below(3), s.below(256))
		case 3:
			text = "\xff" + text[1:]
		}
		want := slowCheck(text)
		if got := packer.Check(text); got != want {
			t.Fatalf("%d bytes %.12q: %v, not %v", len(text), text, got, want)
		}
		seen[want]++
	}
	for _, e := range []api.Errno{api.OK, api.ErrShort, api.ErrLong, api.ErrForm} {
		if seen[e] < 1000 {
			t.Error("too few of a kind:", e, seen[e])
		}
	}
}

// outside is numbers that are not from 0 to last; cut to fewer bits, some would be.
func outside(last int) []int {
	return []int{-1, -2, -last, -last - 1, -last - 2, last + 1, last + 2, 2*last + 2, 1<<16 + last + 1, 1 << 32, 1<<32 + 1, -1 << 32, math.MinInt, math.MinInt + 1, math.MaxInt}
}

// P15.1: the ends of the Pid and the Count, by name, with sections and without.
func TestNumbersByName(t *testing.T) {
	for n, want := range map[int]api.Errno{-1: api.ErrRange, 0: api.OK, 8190: api.OK, 8191: api.ErrRange, 8192: api.ErrRange} {
		if got := packed(n, 3, hi); got.e != want || want == api.OK && got.l[0].Pid != n {
			t.Errorf("Pid %d: %s", n, got.text())
		}
		if got := packed(n, 3); got.e != want {
			t.Errorf("Pid %d, no sections: %s", n, got.text())
		}
	}
	for n, want := range map[int]api.Errno{-1: api.ErrRange, 0: api.OK, 15: api.OK, 16: api.ErrRange} {
		if got := packed(17, n, hi); got.e != want || want == api.OK && got.l[0].Count != n {
			t.Errorf("Count %d: %s", n, got.text())
		}
		if got := packed(17, n); got.e != want {
			t.Errorf("Count %d, no sections: %s", n, got.text())
		}
	}
}

// P15.1: numbers beyond their ends, each alone and both, with sections that may be, none, and some that may not: ErrRange is named first (R1).
func TestNumbersThatMayNotBe(t *testing.T) {
	lists := [][]string{nil, {hi}, {hi, hi}, {""}, {hi + "x"}, {"\xff" + hi[1:]}, {hi, "abcdefghijkl"}}
	for _, l := range lists {
		for _, pid := range outside(8190) {
			for _, count := range []int{0, 3, 15, 16, -1} {
				if got := packed(pid, count, l...); !got.same(packs{e: api.ErrRange}) {
					t.Errorf("%d, %d, %d sections: %s", pid, count, len(l), got.text())
				}
			}
		}
		for _, count := range outside(15) {
			for _, pid := range []int{0, 17, 8190, 8191, -1} {
				if got := packed(pid, count, l...); !got.same(packs{e: api.ErrRange}) {
					t.Errorf("%d, %d, %d sections: %s", pid, count, len(l), got.text())
				}
			}
		}
	}
}

// P15.1: of several sections that may not be the error of the first one is told (R1), wherever it stands.
func TestFirstErrorOfSections(t *testing.T) {
	wrong := map[string]api.Errno{hi[:13]: api.ErrShort, hi + "x": api.ErrLong, "\xff" + hi[1:]: api.ErrForm, put(hi, 1, 0x30): api.ErrForm, "": api.ErrShort}
	for first, want := range wrong {
		for second := range wrong {
			for ahead := range 4 {
				for between := range 3 {
					var l []string
					for range ahead {
						l = append(l, hi)
					}
					l = append(l, first)
					for range between {
						l = append(l, of(9, 400))
					}
					l = append(l, second, hi)
					if got := packed(17, 3, l...); !got.same(packs{e: want}) {
						t.Errorf("%.12q behind %d, %.12q: %s, not %v", first, ahead, second, got.text(), want)
					}
				}
			}
		}
	}
}

// P15.1: each Pid and each Count stand in all packets, in a list of several.
func TestPidsAndCounts(t *testing.T) {
	l := all(400, 14, 4096, 183)
	for pid := range 8191 {
		if pid%97 == 0 || pid > 8180 {
			for count := range 16 {
				packsAs(t, pid, count, l...)
			}
		}
	}
}

// P15.1: the Counts by hand: one more each time, 0 behind 15, and what is behind the last one.
func TestCountsByHand(t *testing.T) {
	for _, c := range []struct {
		count, sections int
		want            []int
		behind          int
	}{
		{0, 0, nil, 0}, {7, 0, nil, 7}, {15, 0, nil, 15},
		{0, 1, []int{0}, 1}, {14, 1, []int{14}, 15}, {15, 1, []int{15}, 0},
		{14, 2, []int{14, 15}, 0}, {14, 3, []int{14, 15, 0}, 1}, {15, 2, []int{15, 0}, 1},
		{3, 15, []int{3, 4, 5, 6, 7, 8, 9, 10, 11, 12, 13, 14, 15, 0, 1}, 2},
		{3, 16, []int{3, 4, 5, 6, 7, 8, 9, 10, 11, 12, 13, 14, 15, 0, 1, 2}, 3},
		{3, 17, []int{3, 4, 5, 6, 7, 8, 9, 10, 11, 12, 13, 14, 15, 0, 1, 2, 3}, 4},
	} {
		var l []string
		for range c.sections {
			l = append(l, of(5, 183)) // one packet each
		}
		got := packed(8190, c.count, l...)
		if got.e != api.OK || got.n != c.behind || len(got.l) != len(c.want) {
			t.Errorf("%d, %d sections: %s", c.count, c.sections, got.text())
			continue
		}
		for k, p := range got.l {
			if p.Count != c.want[k] || p.Pid != 8190 || p.Bad {
				t.Errorf("%d, %d sections, packet %d: %d", c.count, c.sections, k, p.Count)
			}
		}
	}
}

// P15.2: no packets have no bytes; several have theirs, one behind the other, byte by byte.
func TestBytesByHand(t *testing.T) {
	first := "\x47\x40\x11\x13" + strings.Repeat("clarion!", 23)
	second := "\x47\x00\x11\x34\x00" + dots(183)
	third := "\x47\x9f\xff\x2f\xb7\x00" + ones(182)
	a := packet.Packet{Pid: 17, Start: true, Count: 3, Body: strings.Repeat("clarion!", 23)}
	b := packet.Packet{Pid: 17, Count: 4, Body: dots(183)}
	c := packet.Packet{Pid: 8191, Count: 15, Bad: true}
	for _, x := range []struct {
		l    []packet.Packet
		want string
	}{
		{nil, ""}, {[]packet.Packet{}, ""}, {[]packet.Packet{a}, first}, {[]packet.Packet{c}, third},
		{[]packet.Packet{a, b}, first + second}, {[]packet.Packet{b, a}, second + first}, {[]packet.Packet{c, a, b, a}, third + first + second + first},
	} {
		if got := bytesIn(x.l...); got != (bytesOf{s: x.want}) {
			t.Errorf("%d packets: %d bytes %.12q, %v", len(x.l), len(got.s), got.s, got.e)
		}
	}
}

// P15.2: packets of which one may not be, or two: the error of the first one, and nothing beside it (R1).
func TestBytesOfWhatMayNotBe(t *testing.T) {
	good := packet.Packet{Pid: 17, Body: dots(184)}
	wrong := []struct {
		p packet.Packet
		e api.Errno
	}{
		{packet.Packet{Pid: -1}, api.ErrRange}, {packet.Packet{Pid: 8192}, api.ErrRange}, {packet.Packet{Count: -1}, api.ErrRange}, {packet.Packet{Count: 16}, api.ErrRange},
		{packet.Packet{Body: dots(185)}, api.ErrFull}, {packet.Packet{Body: dots(70000)}, api.ErrFull}, {packet.Packet{Count: 16, Body: dots(185)}, api.ErrRange},
	}
	for _, x := range wrong {
		for _, l := range [][]packet.Packet{{x.p}, {x.p, good}, {good, x.p}, {good, good, x.p, good}} {
			if got := bytesIn(l...); got != (bytesOf{e: x.e}) {
				t.Errorf("%d, %d, %d bytes, of %d: %d bytes, %v", x.p.Pid, x.p.Count, len(x.p.Body), len(l), len(got.s), got.e)
			}
		}
		for _, y := range wrong {
			if got := bytesIn(good, x.p, good, y.p); got != (bytesOf{e: x.e}) {
				t.Errorf("two: %d bytes, %v, not %v", len(got.s), got.e, x.e)
			}
		}
	}
}

// P15.2: packets by the layer below, whose own tests hold its bytes; of many.
func TestBytesOfAny(t *testing.T) {
	s := noise(5)
	for many := range 60 {
		var l []packet.Packet
		want := ""
		for range many {
			p := packet.Packet{Pid: s.below(8192), Start: s.below(2) == 1, Count: s.below(16), Bad: s.below(2) == 1, Body: s.text(s.below(185))}
			text, e := packet.Encode(p)
			if e != api.OK {
				t.Fatal(e)
			}
			l, want = append(l, p), want+text
		}
		if got := bytesIn(l...); got != (bytesOf{s: want}) {
			t.Fatalf("%d packets: %d bytes, %v", many, len(got.s), got.e)
		}
	}
}

// P15.2: Many by hand: the ends of a size, none, and one that may not be among others.
func TestManyByHand(t *testing.T) {
	for _, c := range []struct {
		want int
		l    []int
	}{
		{0, nil}, {0, []int{}}, {1, []int{12}}, {1, []int{14}}, {1, []int{182}}, {1, []int{183}}, {2, []int{184}}, {23, []int{4096}},
		{0, []int{11}}, {0, []int{0}}, {0, []int{-1}}, {0, []int{-12}}, {0, []int{4097}},
		{0, []int{14, 11}}, {0, []int{11, 14}}, {0, []int{14, 4097, 14}}, {0, []int{4097, 11}}, {0, []int{400, 14, 0}},
		{1, []int{12, 12}}, {1, []int{90, 93}}, {2, []int{90, 94}}, {2, []int{183, 14}}, {3, []int{400, 14}}, {45, []int{4096, 4096, 12}},
		{2, []int{183 + 184}}, {2, []int{183 + 183}}, {3, []int{183 + 185}}, {3, []int{183 + 184, 12}}, {3, []int{183 + 183, 12}}, {3, []int{183 + 182, 12}}, {2, []int{183 + 171, 12}}, {3, []int{183 + 172, 12}}, {2, []int{183 + 182}},
	} {
		if got := packer.Many(c.l...); got != c.want {
			t.Errorf("%v: %d, not %d", c.l, got, c.want)
		}
	}
	for _, n := range append(outside(4096), 11, 1, math.MaxInt32, -4096) {
		for _, l := range [][]int{{n}, {n, 14}, {14, n}, {4096, 12, n, 4096}} {
			if got := packer.Many(l...); got != 0 {
				t.Errorf("%v: %d", l, got)
			}
		}
	}
}
