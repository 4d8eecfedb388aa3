package gf_test

// slowMul is the product by the chapter's own words, so that the package is not held against its own steps: first the whole product of the polynomials, then x^8 + x^4 + x^3 + x^2 + 1 is taken off it.
func slowMul(a, b byte) byte {
	p := 0
	for n := range 8 {
		if b>>n&1 == 1 {
			p ^= int(a) << n
		}
	}
	for n := 15; n >= 8; n-- {
		if p>>n&1 == 1 {
			p ^= 0x11d << (n - 8)
		}
	}
	return byte(p)
}

// slowPow is a, n times by itself, n not being below 0.
func slowPow(a byte, n int) byte {
	p := byte(1)
	for range n {
		p = slowMul(p, a)
	}
	return p
}

// slowInv is the byte by which the product is 1; 0, if none is.
func slowInv(a byte) byte {
	for b := range 256 {
		if slowMul(a, byte(b)) == 1 {
			return byte(b)
		}
	}
	return 0
}

// slowSigned is a, n times by itself, or its Inv, -n times.
func slowSigned(a byte, n int) byte {
	if n < 0 {
		return slowPow(slowInv(a), -n)
	}
	return slowPow(a, n)
}
