package datagram_test

import (
	"strings"

	"clarion/api"
	"clarion/datagram"
)

// The chapter's own words, step by step and in whole numbers, so that the package is not held against its own sums.

// slowSum is the sum of bytes: what goes beyond 16 bits is added again at each step.
func slowSum(s string) int {
	if len(s)%2 != 0 {
		s += "\x00"
	}
	sum := 0
	for i := 0; i < len(s); i += 2 {
		sum += 256*int(s[i]) + int(s[i+1])
		if sum >= 65536 {
			sum = sum - 65536 + 1
		}
	}
	return 65535 - sum
}

// told is what Peek answers, to be held against another one at once.
type told struct {
	head datagram.Head
	e    api.Errno
}

func peeked(s string) told {
	h, e := datagram.Peek(s)
	return told{h, e}
}

// slowPeek is what Peek must answer.
func slowPeek(s string) told {
	if len(s) == 0 {
		return told{e: api.ErrShort}
	}
	h := datagram.Head{Version: int(s[0]) / 16}
	least, known := map[int]int{4: 20, 6: 40}[h.Version]
	if !known {
		return told{e: api.ErrKind}
	}
	if len(s) < least {
		return told{e: api.ErrShort}
	}
	if h.Version == 4 {
		h.Header, h.Length, h.Proto = int(s[0])%16*4, 256*int(s[2])+int(s[3]), int(s[9])
	} else {
		h.Header, h.Length, h.Proto = 40, 256*int(s[4])+int(s[5])+40, int(s[6])
	}
	if h.Header < least || h.Length < h.Header {
		return told{e: api.ErrForm}
	}
	if h.Length > 4080 {
		return told{e: api.ErrRange}
	}
	return told{head: h}
}

// slowCheck is what Check must answer.
func slowCheck(s string) api.Errno {
	p := slowPeek(s)
	if p.e != api.OK {
		return p.e
	}
	if len(s) < p.head.Length {
		return api.ErrShort
	}
	if len(s) > p.head.Length {
		return api.ErrLong
	}
	if p.head.Version == 4 && slowSum(s[:p.head.Header]) != 0 {
		return api.ErrSum
	}
	return api.OK
}

// slowSplit is what Split must answer.
func slowSplit(s string) ([]string, api.Errno) {
	if s == "" {
		return nil, api.OK
	}
	first := s
	if p := slowPeek(s); p.e == api.OK && p.head.Length < len(s) {
		first = s[:p.head.Length]
	}
	if e := slowCheck(first); e != api.OK {
		return nil, e
	}
	rest, e := slowSplit(s[len(first):])
	if e != api.OK {
		return nil, e
	}
	return append([]string{first}, rest...), api.OK
}

// two is a number of 16 bits as bytes, the high one first.
func two(n int) string { return string([]byte{byte(n / 256), byte(n % 256)}) }

// one is a byte.
func one(n int) string { return string([]byte{byte(n)}) }

// head4 is a header of version 4, of four times so many bytes (5 at least), whose sum is right, and that says any length.
func head4(words, length, proto int) string {
	ahead := one(64+words) + "\x00" + two(length) + "\x12\x34\x40\x00\x40" + one(proto)
	behind := "\x0a\x01\x02\x03\xe0\x04\x05\x06" + strings.Repeat("\x94\x04\x01\x07", words-5)
	return ahead + two(slowSum(ahead+behind)) + behind
}

// head6 is one of version 6, that says a length of 40 and any number.
func head6(beyond, proto int) string {
	return "\x6a\xbc\xde\xf0" + two(beyond) + one(proto) + "\x40" + strings.Repeat("\x20\x01from", 3)[:16] + strings.Repeat("\xff\x02 to ", 3)[:16]
}

// good4 is a datagram of version 4.
func good4(words, proto int, body string) string {
	return head4(words, 4*words+len(body), proto) + body
}

// good6 is one of version 6.
func good6(proto int, body string) string { return head6(len(body), proto) + body }

// samples is datagrams of both versions: the least and the greatest ones, with headers of each length, with bodies of many.
func samples() []string {
	s := noise(5)
	var out []string
	for words := 5; words < 16; words++ {
		out = append(out, good4(words, s.below(256), ""), good4(words, s.below(256), s.text(1+s.below(90))))
	}
	for _, long := range []int{0, 1, 2, 3, 19, 20, 21, 40, 211, 215, 216, 236, 1000, 4019, 4020} {
		out = append(out, good4(5, s.below(256), s.text(long)), good4(15, s.below(256), s.text(long)), good6(s.below(256), s.text(long)))
	}
	return append(out, good4(5, 0, s.text(4060)), good6(255, s.text(4040)))
}

// put is s with another byte at a place.
func put(s string, at, n int) string { return s[:at] + one(n) + s[at+1:] }

// noise is numbers that follow no rule to be seen, the same ones at each run.
type noise uint64

func (s *noise) below(n int) int {
	*s = *s*6364136223846793005 + 1442695040888963407
	return int((uint64(*s) ^ uint64(*s)>>29) >> 33 % uint64(n))
}

func (s *noise) text(long int) string {
	b := make([]byte, long)
	for i := range b {
		b[i] = byte(s.below(256))
	}
	return string(b)
}
