// Package gf is layer 1, bytes that are added and multiplied: see shared/doc/01-gf.md.
package gf

import "clarion/api"

const (
	size = 256      // bytes that there are
	ring = size - 1 // 2, so many times by itself, is 1 again
	fold = 0x1d     // x^4 + x^3 + x^2 + 1, which stands for the x^8 that a shift drops
)

// Add is the sum of all; 0 of none.
func Add(l ...byte) byte {
	sum := byte(0)
	for _, a := range l {
		sum ^= a
	}
	return sum
}

// Mul is the product of all; 1 of none.
func Mul(l ...byte) byte {
	all := byte(1)
	for _, a := range l {
		all = product(all, a)
	}
	return all
}

// Dot is the sum of the products of two texts' bytes, place by place.
func Dot(a, b string) (byte, api.Errno) {
	if len(a) != len(b) {
		return 0, api.ErrArg
	}
	sum := byte(0)
	for i := range len(a) {
		sum ^= product(a[i], b[i])
	}
	return sum, api.OK
}

// Inv is the byte by which the product is 1.
func Inv(a byte) (byte, api.Errno) {
	if a == 0 {
		return 0, api.ErrZero
	}
	return New().Inv(a), api.OK
}

// Div is the byte whose product with b is a.
func Div(a, b byte) (byte, api.Errno) {
	if b == 0 {
		return 0, api.ErrZero
	}
	return product(a, New().Inv(b)), api.OK
}

// Exp is 2, n times by itself.
func Exp(n int) byte {
	return New().Exp(n)
}

// Log is how many times 2 is by itself in a, from 0 to 254.
func Log(a byte) (int, api.Errno) {
	if a == 0 {
		return 0, api.ErrZero
	}
	return New().Log(a), api.OK
}

// Pow is a, n times by itself.
func Pow(a byte, n int) (byte, api.Errno) {
	if a == 0 {
		return powZero(n)
	}
	f := New()
	// n goes round ahead of the product, which would else be too great for an int.
	return f.Exp(f.Log(a) * round(n)), api.OK
}

// powZero stands apart, as 0 has no logarithm.
func powZero(n int) (byte, api.Errno) {
	switch {
	case n < 0:
		return 0, api.ErrZero
	case n == 0:
		return 1, api.OK
	}
	return 0, api.OK
}

// product needs no logarithms, so that one product is not as dear as all of them.
func product(a, b byte) byte {
	sum := byte(0)
	for ; b != 0; b >>= 1 {
		if b&1 != 0 {
			sum ^= a
		}
		a = double(a)
	}
	return sum
}

func double(a byte) byte {
	if a&0x80 != 0 {
		return a<<1 ^ fold
	}
	return a << 1
}

// round is the power from 0 to 254 that is the same as n, which may be below 0.
func round(n int) int {
	n %= ring
	if n < 0 {
		n += ring
	}
	return n
}
