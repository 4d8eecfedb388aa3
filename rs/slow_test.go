package rs_test

import (
	"strings"

	"clarion/api"
	"clarion/gf"
	"clarion/rs"
)

// The chapter's own words, power by power, so that the package is not held against its own steps.

// slowValue is a text's value at x: its last byte is the coefficient of x to the 0.
func slowValue(text string, x byte) byte {
	sum, power := byte(0), byte(1)
	for i := len(text) - 1; i >= 0; i-- {
		sum ^= gf.Mul(text[i], power)
		power = gf.Mul(power, x)
	}
	return sum
}

// slowZeros is 2 to the n, n from 0 to 63.
func slowZeros() []byte {
	var out []byte
	power := byte(1)
	for range 64 {
		out = append(out, power)
		power = gf.Mul(power, 2)
	}
	return out
}

// slowSyndromes is the values at all of them.
func slowSyndromes(text string) string {
	var out []byte
	for _, a := range slowZeros() {
		out = append(out, slowValue(text, a))
	}
	return string(out)
}

// slowGenerator is the product of x + a, the lowest coefficient first, each factor being the sum of p a power higher and of p times a.
func slowGenerator() string {
	p := []byte{1}
	for _, a := range slowZeros() {
		higher := append([]byte{0}, p...)
		for n := range p {
			higher[n] ^= gf.Mul(p[n], a)
		}
		p = higher
	}
	return string(p)
}

// slowIs is whether a text is a word: it has 255 bytes, and is 0 at all these.
func slowIs(text string) bool {
	return len(text) == 255 && slowSyndromes(text) == nulls(64)
}

// nulls is so many bytes 0.
func nulls(n int) string { return strings.Repeat("\x00", n) }

// xor is two texts of the same length, xor-ed byte by byte.
func xor(a, b string) string {
	out := []byte(a)
	for i := range out {
		out[i] ^= b[i]
	}
	return string(out)
}

// times is a text of which each byte is taken c times.
func times(text string, c byte) string {
	out := []byte(text)
	for i := range out {
		out[i] = gf.Mul(out[i], c)
	}
	return string(out)
}

// noise is bytes that follow no rule to be seen, the same ones at each run.
type noise uint32

func (s *noise) next() int {
	*s = *s*1664525 + 1013904223
	return int(*s >> 16)
}

func (s *noise) text(long int) string {
	b := make([]byte, long)
	for i := range b {
		b[i] = byte(s.next())
	}
	return string(b)
}

// places is n places from 0 to 254, each once.
func (s *noise) places(n int) []int {
	all := make([]int, 255)
	for i := range all {
		all[i] = i
	}
	for i := range n {
		j := i + s.next()%(len(all)-i)
		all[i], all[j] = all[j], all[i]
	}
	return all[:n]
}

// turn is a text with other bytes at these places.
func (s *noise) turn(text string, at []int) string {
	out := []byte(text)
	for _, i := range at {
		out[i] ^= byte(1 + s.next()%255)
	}
	return string(out)
}

// samples is data of many forms: bytes 0, one byte alone at the ends and between, bytes 0 in front, behind and between, all the same, rising, text of more than one byte a rune, and others.
func samples() []string {
	rising := make([]byte, 191)
	for i := range rising {
		rising[i] = byte(i)
	}
	s := noise(3)
	out := []string{
		nulls(191), nulls(190) + "\x01", nulls(190) + "\xff", "\x01" + nulls(190), "\x80" + nulls(190),
		nulls(95) + "\x07" + nulls(95), strings.Repeat("\xff", 191), string(rising),
		strings.Repeat("clarion ", 23) + "and so ", strings.Repeat("\xe2\x82\xac", 63) + "\xc3\xa9",
		nulls(100) + s.text(91), s.text(91) + nulls(100), s.text(50) + nulls(91) + s.text(50),
	}
	for range 12 {
		out = append(out, s.text(191))
	}
	return out
}

// answer is a call's text and error, to be held against another one at once.
type answer struct {
	text string
	e    api.Errno
}

func told(text string, e api.Errno) answer { return answer{text, e} }

// words is the words of samples.
func words() []string {
	var out []string
	for _, data := range samples() {
		out = append(out, told(rs.Word(data)).text)
	}
	return out
}
