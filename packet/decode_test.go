package packet_test

import (
	"strings"
	"testing"

	"clarion/api"
	"clarion/packet"
)

// decodes holds Decode against the words.
func decodes(t *testing.T, s string) {
	t.Helper()
	if got, want := decoded(s), slowDecode(s); got != want {
		t.Fatalf("%d bytes %.12q: %s, %v, not %s, %v", len(s), s, short(got.p), got.e, short(want.p), want.e)
	}
}

// P14.2: of no byte, of 187, 188, 189, and of all others up to some packets, that begin as they must and not; beside the error nothing is answered (R1).
func TestDecodeOfEachLength(t *testing.T) {
	for n := range 600 {
		want := api.ErrShort
		switch {
		case n == 188:
			continue
		case n > 188:
			want = api.ErrLong
		}
		for _, s := range []string{strings.Repeat("G", n), dots(n), (slowBytes(packet.Packet{Pid: 5, Body: dots(184)}) + dots(500))[:n]} {
			if got := decoded(s); got != (told{e: want}) {
				t.Fatalf("%d bytes %.5q: %s, %v", n, s, short(got.p), got.e)
			}
		}
	}
	for _, p := range flags(packet.Packet{Pid: 17, Count: 3, Body: "hi"}) {
		s := slowBytes(p)
		for text, want := range map[string]told{"": {e: api.ErrShort}, s[:187]: {e: api.ErrShort}, s[1:]: {e: api.ErrShort}, s: {p: p}, s + "x": {e: api.ErrLong}, "x" + s: {e: api.ErrLong}, s + s: {e: api.ErrLong}, s[1:] + "x": {e: api.ErrSync}} {
			if got := decoded(text); got != want {
				t.Errorf("%d bytes: %s, %v, not %v", len(text), short(got.p), got.e, want.e)
			}
		}
	}
	if got := decoded(strings.Repeat("G", 1<<20)); got != (told{e: api.ErrLong}) {
		t.Error("many bytes:", got.e)
	}
}

// P14.2: each byte that there may be at the beginning, of bytes that are right else and of such that are not.
func TestDecodeOfEachBeginning(t *testing.T) {
	for n := range 256 {
		for parts := range 4 {
			s := put(head(packet.Packet{Pid: 5}, "0", "00", parts)+"\xb7"+dots(183), 0, n)
			if n == 0x47 {
				decodes(t, s)
			} else if got := decoded(s); got != (told{e: api.ErrSync}) {
				t.Errorf("%d, %d: %s, %v", n, parts, short(got.p), got.e)
			}
		}
	}
}

// P14.2: each value of the two bits ahead of Count, with each number of bytes that an adaptation may tell, and each of the bits that a packet tells or not.
func TestDecodeOfEachAdaptation(t *testing.T) {
	s := noise(7)
	for parts := range 4 {
		good := 0
		for n := range 256 {
			for _, p := range flags(packet.Packet{Pid: s.below(8192), Count: s.below(16)}) {
				text := head(p, "0", "00", parts) + string([]byte{byte(n)}) + s.text(183)
				decodes(t, text)
				if decoded(text).e == api.OK {
					good++
				}
			}
		}
		if want := []int{0, 4 * 256, 4, 4 * 183}[parts]; good != want {
			t.Errorf("%d: %d that may be, not %d", parts, good, want)
		}
	}
}

// P14.2: the numbers at the ends, by name: how many bytes the body has, or the error.
func TestDecodeOfAdaptationsByName(t *testing.T) {
	p := packet.Packet{Pid: 17, Start: true, Count: 3}
	behind := noise(9)
	text := behind.text(183)
	for n, want := range map[int]told{
		0: {e: api.ErrForm}, 1: {e: api.ErrForm}, 181: {e: api.ErrForm}, 182: {e: api.ErrForm}, 183: {p: p}, 184: {e: api.ErrForm}, 255: {e: api.ErrForm},
	} {
		if got := decoded("\x47\x40\x11\x23" + string([]byte{byte(n)}) + text); got != want {
			t.Errorf("%d, no body: %s, %v", n, short(got.p), got.e)
		}
	}
	for n, long := range map[int]int{0: 183, 1: 182, 2: 181, 90: 93, 181: 2, 182: 1} {
		want := told{p: p}
		want.p.Body = text[183-long:]
		if got := decoded("\x47\x40\x11\x33" + string([]byte{byte(n)}) + text); got != want {
			t.Errorf("%d, a body: %s, %v", n, short(got.p), got.e)
		}
	}
	for _, n := range []int{183, 184, 185, 254, 255} {
		if got := decoded("\x47\x40\x11\x33" + string([]byte{byte(n)}) + text); got != (told{e: api.ErrForm}) {
			t.Errorf("%d, a body: %s, %v", n, short(got.p), got.e)
		}
	}
	for _, n := range []int{0, 182, 183, 255} {
		s := string([]byte{byte(n)}) + text
		p.Body = s
		if got := decoded("\x47\x40\x11\x13" + s); got != (told{p: p}) {
			t.Errorf("%d, a body alone: %s, %v", n, short(got.p), got.e)
		}
		if got := decoded("\x47\x40\x11\x03" + s); got != (told{e: api.ErrForm}) {
			t.Errorf("%d, neither: %s, %v", n, short(got.p), got.e)
		}
	}
}

// P14.2: what does not count is any: the third bit behind 0x47, the two bits behind Pid, and all that an adaptation says.
func TestDecodeOfWhatDoesNotCount(t *testing.T) {
	s := noise(11)
	for range 3000 {
		p := s.any()
		text := slowBytes(p)
		want := told{p: p}
		parts := number(signsOf(text[3:4])[2:4])
		for _, third := range []string{"0", "1"} {
			for _, two := range []string{"00", "01", "10", "11"} {
				c := head(p, third, two, parts) + text[4:]
				if got := decoded(c); got != want {
					t.Fatalf("%s, %s, %s: %s, %v", short(p), third, two, short(got.p), got.e)
				}
				if n := len(c) - len(p.Body); n > 5 {
					c = c[:5] + s.text(n-5) + p.Body
				}
				if got := decoded(c); got != want {
					t.Fatalf("%s, another adaptation: %s, %v", short(p), short(got.p), got.e)
				}
			}
		}
	}
}

// P14.2: each byte of an adaptation alone is another one: all but the one that tells how many follow.
func TestDecodeOfOneOtherByte(t *testing.T) {
	for _, long := range bodies {
		p := packet.Packet{Pid: 300, Start: true, Count: 7, Body: dots(long)}
		text := slowBytes(p)
		for at := range text {
			for _, n := range []int{0, 1, 0x47, 0x7f, 0x80, 0xb6, 0xb7, 0xff} {
				c := put(text, at, n)
				decodes(t, c)
				if at > 4 && at < 188-long && decoded(c) != (told{p: p}) {
					t.Fatalf("%d bytes, byte %d is %d: %+v", long, at, n, decoded(c))
				}
			}
		}
	}
}

// P14.2: all that the three bytes behind 0x47 may be, each for itself.
func TestDecodeOfEachHead(t *testing.T) {
	for _, behind := range []string{"\xb7" + dots(183), "\xb6" + dots(183), "\x00" + dots(183)} {
		for n := range 1 << 16 {
			decodes(t, "\x47"+string([]byte{byte(n >> 8), byte(n)})+"\x35"+behind)
		}
		for n := range 256 {
			decodes(t, "\x47\x12\x34"+string([]byte{byte(n)})+behind)
		}
	}
}

// P14.2: several things are wrong: what is named first is answered (R1).
func TestDecodeOfSeveralWrong(t *testing.T) {
	text := "\x47\x00\x00\x00" + dots(184) // neither of both
	for _, c := range []struct {
		s    string
		want api.Errno
	}{
		{text, api.ErrForm}, {put(text, 0, 0x46), api.ErrSync}, {put(text, 0, 0x46)[:187], api.ErrShort}, {put(text, 0, 0x46) + "x", api.ErrLong},
		{text[:187], api.ErrShort}, {text + "x", api.ErrLong}, {"\x47", api.ErrShort}, {"x", api.ErrShort}, {"\x47\x00\x00\x20", api.ErrShort},
		{put(text, 3, 0x20), api.ErrForm}, {"\x48\x00\x00\x20\xb6" + dots(183), api.ErrSync}, {"\x48\x00\x00\x30\xb7" + dots(183), api.ErrSync},
	} {
		if got := decoded(c.s); got != (told{e: c.want}) {
			t.Errorf("%d bytes %.6q: %s, %v, not %v", len(c.s), c.s, short(got.p), got.e, c.want)
		}
	}
}

// P14.2: any bytes, by the words.
func TestDecodeOfAny(t *testing.T) {
	s := noise(13)
	seen := map[api.Errno]int{}
	for range 30000 {
		text := s.text(187 + s.below(12)*s.below(12)/60 + s.below(5)/4 + 1)
		if s.below(5) > 0 {
			text = put(text, 0, 0x47)
		}
		if s.below(3) == 0 {
			text = put(text, 4, 183)
		}
		if s.below(12) == 0 {
			text = text[:s.below(188)]
		}
		decodes(t, text)
		seen[decoded(text).e]++
	}
	for _, e := range []api.Errno{api.OK, api.ErrShort, api.ErrLong, api.ErrSync, api.ErrForm} {
		if seen[e] < 1000 {
			t.Error("too few of a kind:", e, seen[e])
		}
	}
}
