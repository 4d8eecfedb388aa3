package gf_test

import (
	"math"
	"testing"

	"clarion/gf"
)

// P1.5
func TestFieldMul(t *testing.T) {
	f := gf.New()
	for a := range 256 {
		for b := range 256 {
			if got, want := f.Mul(byte(a), byte(b)), slowMul(byte(a), byte(b)); got != want {
				t.Fatalf("Mul(%d, %d): %d, not %d", a, b, got, want)
			}
		}
	}
}

// P1.5
func TestFieldInv(t *testing.T) {
	f := gf.New()
	if got := f.Inv(0); got != 0 {
		t.Error("Inv(0):", got)
	}
	for a := 1; a < 256; a++ {
		if got := f.Inv(byte(a)); slowMul(byte(a), got) != 1 {
			t.Errorf("Inv(%d): %d", a, got)
		}
	}
}

// P1.5
func TestFieldExp(t *testing.T) {
	f := gf.New()
	for n := -600; n <= 600; n++ {
		if got, want := f.Exp(n), slowSigned(2, n); got != want {
			t.Errorf("Exp(%d): %d, not %d", n, got, want)
		}
	}
	if want := slowPow(2, 127); f.Exp(math.MaxInt) != want || f.Exp(math.MinInt) != want {
		t.Error("at the ends:", f.Exp(math.MaxInt), f.Exp(math.MinInt))
	}
}

// P1.5
func TestFieldLog(t *testing.T) {
	f := gf.New()
	if got := f.Log(0); got != -1 {
		t.Error("Log(0):", got)
	}
	for a := 1; a < 256; a++ {
		if n := f.Log(byte(a)); n < 0 || n > 254 || slowPow(2, n) != byte(a) {
			t.Errorf("Log(%d): %d", a, n)
		}
	}
}

// P1.5
func TestNilField(t *testing.T) {
	var f *gf.Field
	for _, a := range []byte{0, 1, 2, 255} {
		if f.Mul(a, 3) != 0 || f.Mul(3, a) != 0 || f.Inv(a) != 0 || f.Log(a) != 0 {
			t.Error(a, f.Mul(a, 3), f.Mul(3, a), f.Inv(a), f.Log(a))
		}
	}
	for _, n := range []int{0, 1, 255, -1, math.MaxInt, math.MinInt} {
		if f.Exp(n) != 0 {
			t.Error(n, f.Exp(n))
		}
	}
}

// R2, R3: each New is the caller's own, and what was asked ahead changes nothing.
func TestFieldsAreApart(t *testing.T) {
	f, g := gf.New(), gf.New()
	if f == nil || g == nil || f == g {
		t.Fatal("not two fields")
	}
	*f = gf.Field{}
	for range 2 {
		if g.Mul(2, 128) != 29 || g.Inv(2) != 142 || g.Log(3) != 25 || g.Exp(255) != 1 || gf.Mul(2, 128) != 29 || gf.Exp(-1) != 142 {
			t.Error(g.Mul(2, 128), g.Inv(2), g.Log(3), g.Exp(255))
		}
	}
}
