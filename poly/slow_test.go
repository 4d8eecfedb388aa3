package poly_test

import (
	"strings"

	"clarion/gf"
)

// The chapter's own words, coefficient by coefficient, so that the package is not held against its own steps.

// coefficient is that of x to the n, which is 0 beyond the text.
func coefficient(p string, n int) byte {
	if n < 0 || n >= len(p) {
		return 0
	}
	return p[n]
}

// cut is the text without the bytes 0 at its end.
func cut(p string) string { return strings.TrimRight(p, "\x00") }

// slowAdd is the sum of two.
func slowAdd(a, b string) string {
	var out []byte
	for n := range max(len(a), len(b)) {
		out = append(out, coefficient(a, n)^coefficient(b, n))
	}
	return cut(string(out))
}

// slowMul is the product: the coefficient of x to the n is the sum over all pairs of powers that are n together.
func slowMul(a, b string) string {
	var out []byte
	for n := range len(a) + len(b) {
		sum := byte(0)
		for i := range n + 1 {
			sum ^= gf.Mul(coefficient(a, i), coefficient(b, n-i))
		}
		out = append(out, sum)
	}
	return cut(string(out))
}

// slowAt is the value: the sum of the coefficients, each by x so many times by itself.
func slowAt(p string, x byte) byte {
	sum, power := byte(0), byte(1)
	for n := range len(p) {
		sum ^= gf.Mul(p[n], power)
		power = gf.Mul(power, x)
	}
	return sum
}

// slowSlope is what the chapter says of it, each coefficient being added to itself one by one.
func slowSlope(p string) string {
	var out []byte
	for n := range len(p) {
		sum := byte(0)
		for range n + 1 {
			sum ^= coefficient(p, n+1)
		}
		out = append(out, sum)
	}
	return cut(string(out))
}

// slowRoots is the product of x + a over all bytes a of l.
func slowRoots(l string) string {
	p := "\x01"
	for i := range len(l) {
		p = slowMul(p, string([]byte{l[i], 1}))
	}
	return p
}

// noise is bytes that follow no rule to be seen, the same ones at each run.
type noise uint32

func (s *noise) next() int {
	*s = *s*1664525 + 1013904223
	return int(*s >> 16)
}

func (s *noise) text(long int) string {
	b := make([]byte, long)
	for i := range b {
		b[i] = byte(s.next())
	}
	return string(b)
}

// samples is polynomials of many forms: 0 as an empty text and as bytes 0, constants, powers, ones with bytes 0 at the end, in front and between, and others of many lengths.
func samples() []string {
	out := []string{"", "\x00", "\x00\x00\x00", "\x01", "\x07", "\xff", "\xff\x00", "\x00\x01", "\x00\x00\x00\x02", "\x00\x00\x05\x00\x00", "\x01\x01", "\x02\x03\x01", "\x01\x00\x00\x00\x01", "\x80\x80\x80", "\xff\xff\xff\xff\x00", "\xc3\xa9", "\xe2\x82\xac\x00"}
	s := noise(2)
	for _, long := range []int{2, 3, 4, 5, 8, 13, 33, 64, 65} {
		out = append(out, s.text(long), s.text(long)+"\x00\x00", s.text(long-1)+"\x01")
	}
	return out
}
