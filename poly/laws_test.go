package poly_test

import (
	"slices"
	"strings"
	"testing"

	"clarion/gf"
	"clarion/poly"
)

// P2.4
func TestOrderMeansNothing(t *testing.T) {
	for _, a := range samples() {
		for _, b := range samples() {
			if poly.Add(a, b) != poly.Add(b, a) || poly.Mul(a, b) != poly.Mul(b, a) {
				t.Fatalf("%q, %q", a, b)
			}
		}
	}
}

// P2.4
func TestOrderOfThreeMeansNothing(t *testing.T) {
	l := samples()[:18]
	for _, a := range l {
		for _, b := range l {
			for _, c := range l {
				if poly.Mul(poly.Mul(a, b), c) != poly.Mul(a, poly.Mul(b, c)) || poly.Add(poly.Add(a, b), c) != poly.Add(a, b, c) || poly.Add(a, poly.Add(b, c)) != poly.Add(a, b, c) {
					t.Fatalf("%q, %q, %q", a, b, c)
				}
			}
		}
	}
}

// P2.4
func TestOrderOfAListMeansNothing(t *testing.T) {
	l := samples()
	sum := poly.Add(l...)
	for range l {
		l = append(l[1:], l[0])
		if got := poly.Add(l...); got != sum {
			t.Fatalf("%q, not %q", got, sum)
		}
	}
	slices.Reverse(l)
	if got := poly.Add(l...); got != sum {
		t.Errorf("backward: %q, not %q", got, sum)
	}
	roots := []byte("\x07\x00\xff\x02\x07\x80")
	p := poly.Roots(string(roots))
	for range roots {
		roots = append(roots[1:], roots[0])
		if got := poly.Roots(string(roots)); got != p {
			t.Errorf("%q, not %q", got, p)
		}
	}
}

// P2.4
func TestValuesOfSumsAndProducts(t *testing.T) {
	for _, a := range samples() {
		for _, b := range samples() {
			sum, product := poly.Add(a, b), poly.Mul(a, b)
			for _, x := range []byte{0, 1, 2, 3, 29, 128, 255} {
				if poly.At(product, x) != gf.Mul(poly.At(a, x), poly.At(b, x)) || poly.At(sum, x) != gf.Add(poly.At(a, x), poly.At(b, x)) {
					t.Fatalf("%q, %q, %d", a, b, x)
				}
			}
		}
	}
}

// P2.4
func TestRootsAreZeroAtTheirBytesAndNowhereElse(t *testing.T) {
	for _, l := range append(samples(), every()) {
		p := poly.Roots(l)
		if len(p) != len(l)+1 || p[len(l)] != 1 {
			t.Errorf("Roots(%q): %q", l, p)
		}
		for x := range 256 {
			if (poly.At(p, byte(x)) == 0) != (strings.IndexByte(l, byte(x)) >= 0) {
				t.Fatalf("Roots(%q) at %d: %d", l, x, poly.At(p, byte(x)))
			}
		}
	}
}

// P2.4: x to the 256, less x, is what is 0 at all bytes.
func TestRootsOfAllBytes(t *testing.T) {
	if got, want := poly.Roots(every()), "\x00\x01"+strings.Repeat("\x00", 254)+"\x01"; got != want {
		t.Errorf("%q", got)
	}
}

// P2.4
func TestSlopeOfAProduct(t *testing.T) {
	for _, a := range samples() {
		for _, b := range samples() {
			if got, want := poly.Slope(poly.Mul(a, b)), poly.Add(poly.Mul(poly.Slope(a), b), poly.Mul(a, poly.Slope(b))); got != want {
				t.Fatalf("%q, %q: %q, not %q", a, b, got, want)
			}
		}
	}
}

// P2.4: a byte that is there twice is a root of the slope, too; one that is there once is none.
func TestSlopeAtRoots(t *testing.T) {
	slope := poly.Slope(poly.Roots("\x05\x05\x09"))
	if poly.At(slope, 5) != 0 || poly.At(slope, 9) == 0 {
		t.Errorf("%q", slope)
	}
}

// Words: what is answered has no byte 0 at its end, whatever is handed in, and what is handed in may have.
func TestBytesZeroAtTheEndMeanNothing(t *testing.T) {
	for _, a := range samples() {
		long := a + "\x00\x00\x00"
		if poly.Trim(long) != cut(a) || poly.Degree(long) != len(cut(a))-1 || poly.Slope(long) != poly.Slope(a) || poly.At(long, 7) != poly.At(a, 7) {
			t.Errorf("%q", a)
		}
		for _, b := range samples() {
			sum, product := poly.Add(long, b), poly.Mul(long, b)
			if sum != poly.Add(a, b) || sum != cut(sum) || product != poly.Mul(a, b) || product != cut(product) {
				t.Fatalf("%q, %q", a, b)
			}
			if divide(long, b) != divide(a, b) || divide(b, long) != divide(b, a) {
				t.Fatalf("%q, %q", a, b)
			}
		}
	}
}

// R1: long texts end, too.
func TestLongTexts(t *testing.T) {
	s := noise(7)
	a, b := s.text(4999)+"\x03", s.text(299)+"\x05"
	got := divide(a, b)
	if got.e != 0 || len(got.rest) > 299 || poly.Add(poly.Mul(got.quotient, b), got.rest) != a {
		t.Error("divided:", len(got.quotient), len(got.rest), int(got.e))
	}
	if p := poly.Roots(a); len(p) != 5001 || poly.At(p, a[0]) != 0 {
		t.Error("roots:", len(p))
	}
}

// every is each byte once.
func every() string {
	b := make([]byte, 256)
	for i := range b {
		b[i] = byte(i)
	}
	return string(b)
}
