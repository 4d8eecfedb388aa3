package packet_test

import (
	"slices"
	"strconv"
	"strings"
	"testing"

	"clarion/api"
	"clarion/packet"
)

// The chapter's own words, with a text of the signs 0 and 1 for bits, and with the 188 places that a byte may have in a packet, so that the package is not held against the layer that it stands on, nor against its own ways.

const (
	long = 188 // bytes of a packet
	room = 184 // bytes of the greatest body
)

// signs is a number of n bits, the highest one first.
func signs(x, n int) string {
	all := strings.Repeat("0", n) + strconv.FormatInt(int64(x), 2)
	return all[len(all)-n:]
}

// sign is a bit that tells.
func sign(is bool) string {
	if is {
		return "1"
	}
	return "0"
}

// number is that of the signs, the highest one first.
func number(signs string) int {
	x, _ := strconv.ParseInt(signs, 2, 64)
	return int(x)
}

// packed is the signs as bytes.
func packed(signs string) string {
	var all strings.Builder
	for ; signs != ""; signs = signs[8:] {
		all.WriteByte(byte(number(signs[:8])))
	}
	return all.String()
}

// signsOf is all bits of all bytes.
func signsOf(s string) string {
	var all strings.Builder
	for k := range len(s) {
		all.WriteString(signs(int(s[k]), 8))
	}
	return all.String()
}

// head is the first four bytes, with what a packet does not tell being any.
func head(p packet.Packet, third, two string, parts int) string {
	return "\x47" + packed(sign(p.Bad)+sign(p.Start)+third+signs(p.Pid, 13)+two+signs(parts, 2)+signs(p.Count, 4))
}

// ones is so many bytes 255, dots so many of a body.
func ones(n int) string { return strings.Repeat("\xff", n) }
func dots(n int) string { return strings.Repeat(".", n) }

// slowBytes is the bytes of a packet that may be.
func slowBytes(p packet.Packet) string {
	n := 183 - len(p.Body)
	switch {
	case n == -1:
		return head(p, "0", "00", 1) + p.Body
	case n == 0:
		return head(p, "0", "00", 3) + "\x00" + p.Body
	case n == 183:
		return head(p, "0", "00", 2) + "\xb7\x00" + ones(182)
	}
	return head(p, "0", "00", 3) + string([]byte{byte(n), 0}) + ones(n-1) + p.Body
}

// slowCheck is what Check must answer.
func slowCheck(p packet.Packet) api.Errno {
	if p.Pid <= -1 || p.Pid >= 8192 || p.Count <= -1 || p.Count >= 16 {
		return api.ErrRange
	}
	if len(p.Body) >= 185 {
		return api.ErrFull
	}
	return api.OK
}

// bytesOf is what Encode answers, to be held against another one at once; told is what Decode does, place what Find does.
type (
	bytesOf struct {
		s string
		e api.Errno
	}
	told struct {
		p packet.Packet
		e api.Errno
	}
	place struct {
		n int
		e api.Errno
	}
)

func encoded(p packet.Packet) bytesOf {
	s, e := packet.Encode(p)
	return bytesOf{s, e}
}

func decoded(s string) told {
	p, e := packet.Decode(s)
	return told{p, e}
}

func find(s string) place {
	n, e := packet.Find(s)
	return place{n, e}
}

// slowDecode is what Decode must answer.
func slowDecode(s string) told {
	switch {
	case len(s) <= 187:
		return told{e: api.ErrShort}
	case len(s) >= 189:
		return told{e: api.ErrLong}
	case s[:1] != "G":
		return told{e: api.ErrSync}
	}
	all := signsOf(s[:5])
	p := packet.Packet{Bad: all[8] == '1', Start: all[9] == '1', Pid: number(all[11:24]), Count: number(all[28:32])}
	n := number(all[32:])
	switch all[26:28] {
	case "01":
		p.Body = s[4:]
		return told{p: p}
	case "10":
		if n == 183 {
			return told{p: p}
		}
	case "11":
		if n <= 182 {
			p.Body = s[5+n:]
			return told{p: p}
		}
	}
	return told{e: api.ErrForm}
}

// slowFind is what Find must answer: each byte that is not 0x47 tells of one place that it is none.
func slowFind(s string) place {
	var none [long]bool
	for k := range len(s) {
		if s[k] != 'G' {
			none[k%long] = true
		}
	}
	for n, is := range none {
		if !is && n < len(s) {
			return place{n: n}
		}
	}
	return place{e: api.ErrNone}
}

// cuts holds Cut against what it must answer, and hands on the pieces.
func cuts(t *testing.T, s string) []string {
	t.Helper()
	l, rest := packet.Cut(s)
	var want []string
	for k := long; k <= len(s); k += long {
		want = append(want, s[k-long:k])
	}
	if !slices.Equal(l, want) || rest != s[len(s)-len(s)%long:] {
		t.Fatalf("%d bytes: %d pieces and %d bytes, not %d and %d", len(s), len(l), len(rest), len(want), len(s)%long)
	}
	return l
}

// checks holds Check, and Encode, of a packet against what they must answer.
func checks(t *testing.T, p packet.Packet, e api.Errno) {
	t.Helper()
	if got := packet.Check(p); got != e {
		t.Errorf("Check of %s: %v, not %v", short(p), got, e)
	}
	want := bytesOf{e: e}
	if e == api.OK {
		want.s = slowBytes(p)
	}
	if got := encoded(p); got != want {
		t.Errorf("Encode of %s: %d bytes %.12q, %v, not %d, %.12q, %v", short(p), len(got.s), got.s, got.e, len(want.s), want.s, want.e)
	}
}

// short is a packet as a text, its body as its length.
func short(p packet.Packet) string {
	return strings.Join([]string{strconv.Itoa(p.Pid), sign(p.Start), strconv.Itoa(p.Count), sign(p.Bad), strconv.Itoa(len(p.Body))}, " ")
}

// flags is the four packets that Start and Bad make of one.
func flags(p packet.Packet) []packet.Packet {
	l := []packet.Packet{p, p, p, p}
	for n := range l {
		l[n].Start, l[n].Bad = n/2 == 1, n%2 == 1
	}
	return l
}

// put is s with another byte at a place.
func put(s string, at, n int) string { return s[:at] + string([]byte{byte(n)}) + s[at+1:] }

// noise is numbers that follow no rule to be seen, the same ones at each run.
type noise uint64

func (s *noise) below(n int) int {
	*s = *s*6364136223846793005 + 1442695040888963407
	return int((uint64(*s) ^ uint64(*s)>>29) >> 33 % uint64(n))
}

func (s *noise) text(long int) string {
	b := make([]byte, long)
	for i := range b {
		b[i] = byte(s.below(256))
	}
	return string(b)
}

// any is a packet that may be; its body is often one of the ends.
func (s *noise) any() packet.Packet {
	ends := []int{0, 1, 2, 181, 182, 183, 184}
	n := s.below(185)
	if s.below(2) == 0 {
		n = ends[s.below(len(ends))]
	}
	return packet.Packet{Pid: s.below(8192), Start: s.below(2) == 1, Count: s.below(16), Bad: s.below(2) == 1, Body: s.text(n)}
}

// stream is the bytes of so many packets.
func (s *noise) stream(many int) string {
	var all strings.Builder
	for range many {
		all.WriteString(slowBytes(s.any()))
	}
	return all.String()
}
