package crc_test

import (
	"hash/crc32"
	"math/bits"
	"strings"

	"clarion/api"
	"clarion/crc"
)

// The chapter's own words, bit by bit, so that the package is not held against its own table.

// slowMore is the register behind s, if it was sum ahead.
func slowMore(sum uint32, s string) uint32 {
	for i := range len(s) {
		for bit := 7; bit >= 0; bit-- {
			out, in := sum>>31, uint32(s[i]>>bit&1)
			sum <<= 1
			if out != in {
				sum ^= 0x04c11db7
			}
		}
	}
	return sum
}

// slowBack is the four bytes behind which the register is sum, if it was 0 ahead: its steps, taken back.
func slowBack(sum uint32) string {
	for range 32 {
		// The fold is odd, and what is moved up is even: the lowest bit tells whether a bit fell out.
		if sum&1 != 0 {
			sum = (sum^0x04c11db7)>>1 | 1<<31
		} else {
			sum >>= 1
		}
	}
	return string([]byte{byte(sum >> 24), byte(sum >> 16), byte(sum >> 8), byte(sum)})
}

// slowSum is the check sum.
func slowSum(s string) uint32 { return slowMore(0xffffffff, s) }

// slowSeal is s, and its check sum, the highest byte first.
func slowSeal(s string) string {
	out := []byte(s)
	for sum, n := slowSum(s), 24; n >= 0; n -= 8 {
		out = append(out, byte(sum>>n))
	}
	return string(out)
}

// slowOpen is what Open must answer.
func slowOpen(s string) answer {
	if len(s) < 4 {
		return answer{"", api.ErrShort}
	}
	if slowSum(s) != 0 {
		return answer{"", api.ErrSum}
	}
	return answer{s[:len(s)-4], api.OK}
}

// mirrorSum is the library's check sum of the same polynomial, which takes the lowest bits first, gives them so, and turns all over at the end.
func mirrorSum(s string) uint32 {
	b := []byte(s)
	for i := range b {
		b[i] = bits.Reverse8(b[i])
	}
	return bits.Reverse32(^crc32.ChecksumIEEE(b))
}

// answer is what Open tells, to be held against another one at once.
type answer struct {
	text string
	e    api.Errno
}

func opened(s string) answer {
	text, e := crc.Open(s)
	return answer{text, e}
}

// xorAt is s, xor-ed with by from a place on.
func xorAt(s string, at int, by string) string {
	out := []byte(s)
	for i := range len(by) {
		out[at+i] ^= by[i]
	}
	return string(out)
}

// noise is bytes that follow no rule to be seen, the same ones at each run.
type noise uint32

func (s *noise) next() int {
	*s = *s*1664525 + 1013904223
	return int(*s >> 16)
}

func (s *noise) text(long int) string {
	b := make([]byte, long)
	for i := range b {
		b[i] = byte(s.next())
	}
	return string(b)
}

// register is any number of 32 bits.
func (s *noise) register() uint32 { return uint32(s.next())<<16 | uint32(s.next()) }

// samples is texts of many forms: none, each byte alone, bytes 0 and 0xff, all bytes rising, runes of more than one byte, and others up to a section's length and beyond.
func samples() []string {
	rising := make([]byte, 256)
	for i := range rising {
		rising[i] = byte(i)
	}
	out := []string{
		"", "123456789", "abc", "clarion", "\xe2\x82\xac\xc3\xa9", string(rising),
		"\x00\x00\x00\x00", "\xff\xff\xff\xff", "\xff\xff\xff\xff\x00", "\x00\xff\xff\xff\xff",
		strings.Repeat("\x00", 188), strings.Repeat("\xff", 188), "\x04\xc1\x1d\xb7", "\x01\x04\xc1\x1d\xb7",
	}
	for n := range 256 {
		out = append(out, string([]byte{byte(n)}))
	}
	s := noise(5)
	for long := range 40 {
		out = append(out, s.text(long))
	}
	for _, long := range []int{187, 188, 255, 256, 257, 4080, 4096, 70000} {
		out = append(out, s.text(long))
	}
	return out
}
