package packet_test

import (
	"math"
	"strings"
	"testing"

	"clarion/api"
	"clarion/packet"
)

// The calls as the chapter lists them: with another signature this file does not build.
var (
	_ func(packet.Packet) api.Errno           = packet.Check
	_ func(packet.Packet) (string, api.Errno) = packet.Encode
	_ func(string) (packet.Packet, api.Errno) = packet.Decode
	_ func() string                           = packet.Empty
	_ func(string) (int, api.Errno)           = packet.Find
	_ func(string) ([]string, string)         = packet.Cut
)

var _ = struct {
	Pid   int
	Start bool
	Count int
	Bad   bool
	Body  string
}(packet.Packet{})

// The chapter's example, as it stands there.
func TestExamples(t *testing.T) {
	body := strings.Repeat("clarion!", 23)
	s, e := packet.Encode(packet.Packet{Pid: 17, Start: true, Count: 3, Body: body})
	if s != "\x47\x40\x11\x13"+body || len(s) != 188 || e != api.OK {
		t.Errorf("%d bytes %.12q, %v", len(s), s, e)
	}
	if packet.Null != 8191 {
		t.Error("Null:", packet.Null)
	}
}

// P14.1: bytes that were worked out by hand: each field at its ends, and with a number of its own.
func TestBytesByHand(t *testing.T) {
	for want, p := range map[string]packet.Packet{
		"\x47\x00\x00\x10" + dots(184):                                  {Body: dots(184)},
		"\x47\x80\x00\x10" + dots(184):                                  {Bad: true, Body: dots(184)},
		"\x47\x40\x00\x10" + dots(184):                                  {Start: true, Body: dots(184)},
		"\x47\x1f\xff\x10" + dots(184):                                  {Pid: 8191, Body: dots(184)},
		"\x47\x10\x00\x10" + dots(184):                                  {Pid: 4096, Body: dots(184)},
		"\x47\x00\x01\x10" + dots(184):                                  {Pid: 1, Body: dots(184)},
		"\x47\x00\x00\x1f" + dots(184):                                  {Count: 15, Body: dots(184)},
		"\x47\x00\x00\x18" + dots(184):                                  {Count: 8, Body: dots(184)},
		"\x47\xdf\xff\x1f" + ones(184):                                  {Pid: 8191, Start: true, Count: 15, Bad: true, Body: ones(184)},
		"\x47\x92\x34\x15" + dots(184):                                  {Pid: 0x1234, Bad: true, Count: 5, Body: dots(184)},
		"\x47\x52\x34\x35\x00" + dots(183):                              {Pid: 0x1234, Start: true, Count: 5, Body: dots(183)},
		"\x47\xc1\x02\x3a\x01\x00" + dots(182):                          {Pid: 258, Start: true, Bad: true, Count: 10, Body: dots(182)},
		"\x47\x00\x11\x31\x02\x00\xff" + dots(181):                      {Pid: 17, Count: 1, Body: dots(181)},
		"\x47\x00\x11\x32\x03\x00\xff\xff" + dots(180):                  {Pid: 17, Count: 2, Body: dots(180)},
		"\x47\x00\x11\x33\x80\x00" + ones(127) + dots(55):               {Pid: 17, Count: 3, Body: dots(55)},
		"\x47\x00\x11\x34\xb5\x00" + ones(180) + "ab":                   {Pid: 17, Count: 4, Body: "ab"},
		"\x47\x00\x11\x35\xb6\x00" + ones(181) + "\x00":                 {Pid: 17, Count: 5, Body: "\x00"},
		"\x47\x00\x00\x20\xb7\x00" + ones(182):                          {},
		"\x47\xdf\xff\x2f\xb7\x00" + ones(182):                          {Pid: 8191, Start: true, Count: 15, Bad: true},
		"\x47\x9f\xfe\x20\xb7\x00" + ones(182):                          {Pid: 8190, Bad: true},
		"\x47\x40\x00\x27\xb7\x00" + ones(182):                          {Start: true, Count: 7},
		"\x47\x00\x00\x30\xb2\x00" + ones(177) + "\xe2\x82\xac\xc3\xa9": {Body: "\u20ac\u00e9"},
	} {
		if got := encoded(p); got != (bytesOf{s: want}) {
			t.Errorf("%s: %.12q, %v", short(p), got.s, got.e)
		}
		if got := decoded(want); got != (told{p: p}) {
			t.Errorf("%.12q: %s, %v", want, short(got.p), got.e)
		}
	}
}

// outside is numbers that are not from 0 to last; cut to fewer bits, some would be.
func outside(last int) []int {
	return []int{-1, -2, -last, -last - 1, -last - 2, last + 1, last + 2, 2*last + 2, 1<<16 + last + 1, 1 << 32, 1<<32 + 1, -1 << 32, math.MinInt, math.MinInt + 1, math.MaxInt}
}

// bodies is how many bytes there are in the bodies that are tried with all numbers.
var bodies = []int{0, 1, 182, 183, 184}

// P14.1: each Pid that may be, those at the ends with each body.
func TestPidsThatMayBe(t *testing.T) {
	for n := range 8192 {
		checks(t, packet.Packet{Pid: n, Count: n % 16, Body: dots(184 - n%185)}, api.OK)
		if n > 2 && n < 8189 && n != 4095 && n != 4096 {
			continue
		}
		for _, long := range bodies {
			for _, p := range flags(packet.Packet{Pid: n, Body: dots(long)}) {
				checks(t, p, api.OK)
			}
		}
	}
}

// P14.1: each Count that may be, with each body.
func TestCountsThatMayBe(t *testing.T) {
	for n := range 16 {
		for _, long := range bodies {
			for _, pid := range []int{0, 17, 8191} {
				for _, p := range flags(packet.Packet{Pid: pid, Count: n, Body: dots(long)}) {
					checks(t, p, api.OK)
				}
			}
		}
	}
}

// P14.1: Pid and Count beyond their ends, each alone and both, with a body that may be and with one that may not: ErrRange is named first (R1).
func TestNumbersThatMayNotBe(t *testing.T) {
	for _, long := range []int{0, 1, 182, 183, 184, 185, 186, 70000} {
		for _, n := range outside(8191) {
			for _, count := range []int{0, 3, 15, 16, -1} {
				for _, p := range flags(packet.Packet{Pid: n, Count: count, Body: dots(long)}) {
					checks(t, p, api.ErrRange)
				}
			}
		}
		for _, n := range outside(15) {
			for _, pid := range []int{0, 17, 8191, 8192, -1} {
				for _, p := range flags(packet.Packet{Pid: pid, Count: n, Body: dots(long)}) {
					checks(t, p, api.ErrRange)
				}
			}
		}
	}
}

// P14.1: the ends of Pid and Count, by name.
func TestNumbersByName(t *testing.T) {
	for n, want := range map[int]api.Errno{-1: api.ErrRange, 0: api.OK, 8191: api.OK, 8192: api.ErrRange} {
		if got := packet.Check(packet.Packet{Pid: n}); got != want {
			t.Errorf("Pid %d: %v", n, got)
		}
	}
	for n, want := range map[int]api.Errno{-1: api.ErrRange, 0: api.OK, 15: api.OK, 16: api.ErrRange} {
		if got := packet.Check(packet.Packet{Count: n}); got != want {
			t.Errorf("Count %d: %v", n, got)
		}
	}
}

// P14.1: bodies of each length that may be: a body alone, an adaptation of no bytes, of one and of many, and one alone.
func TestBodiesThatMayBe(t *testing.T) {
	s := noise(3)
	for long := range 185 {
		for _, body := range []string{dots(long), ones(long), strings.Repeat("\x00", long), strings.Repeat("G", long), s.text(long)} {
			for _, p := range flags(packet.Packet{Pid: 0x1555, Count: 9, Body: body}) {
				checks(t, p, api.OK)
				if got := encoded(p); len(got.s) != 188 {
					t.Fatalf("%d bytes: %d", long, len(got.s))
				}
			}
		}
	}
}

// P14.1: bodies for which there is no room.
func TestBodiesThatMayNotBe(t *testing.T) {
	for _, long := range []int{185, 186, 187, 188, 189, 255, 256, 256 + 183, 256 + 184, 368, 4096, 65536, 65536 + 184, 1 << 20} {
		for _, pid := range []int{0, 8191} {
			for _, p := range flags(packet.Packet{Pid: pid, Count: 15, Body: dots(long)}) {
				checks(t, p, api.ErrFull)
			}
		}
	}
}

// P14.1: any that are drawn near the ends, by the words.
func TestCheckOfAny(t *testing.T) {
	s := noise(5)
	seen := map[api.Errno]int{}
	for range 20000 {
		p := s.any()
		switch s.below(6) {
		case 0:
			p.Pid = 8190 + s.below(4)
		case 1:
			p.Pid = s.below(3) - 1
		case 2:
			p.Count = s.below(20) - 2
		case 3:
			p.Body = dots(182 + s.below(6))
		}
		want := slowCheck(p)
		checks(t, p, want)
		seen[want]++
	}
	for _, e := range []api.Errno{api.OK, api.ErrRange, api.ErrFull} {
		if seen[e] < 1000 {
			t.Error("too few of a kind:", e, seen[e])
		}
	}
}

// P14.1: a packet that is nothing, each time the same.
func TestEmpty(t *testing.T) {
	for range 3 {
		if got := packet.Empty(); got != "\x47\x1f\xff\x10"+ones(184) {
			t.Errorf("%d bytes %.12q", len(got), got)
		}
	}
	if got := encoded(packet.Packet{Pid: packet.Null, Body: ones(184)}); got != (bytesOf{s: packet.Empty()}) {
		t.Errorf("%.12q, %v", got.s, got.e)
	}
	if got := decoded(packet.Empty()); got != (told{p: packet.Packet{Pid: 8191, Body: ones(184)}}) {
		t.Errorf("%s, %v", short(got.p), got.e)
	}
}
