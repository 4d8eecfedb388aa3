package gf_test

import (
	"testing"

	"clarion/gf"
)

// products is Mul of all pairs, as all triples are too many to be asked one by one.
func products() *[256][256]byte {
	var m [256][256]byte
	for a := range 256 {
		for b := range 256 {
			m[a][b] = gf.Mul(byte(a), byte(b))
		}
	}
	return &m
}

// P1.4
func TestOrderOfTwoMeansNothing(t *testing.T) {
	m := products()
	for a := range 256 {
		for b := range 256 {
			if m[a][b] != m[b][a] || gf.Add(byte(a), byte(b)) != gf.Add(byte(b), byte(a)) {
				t.Fatal(a, b)
			}
		}
	}
}

// P1.4
func TestOrderOfThreeMeansNothingAndProductsAreSpreadOverSums(t *testing.T) {
	m := products()
	for a := range 256 {
		for b := range 256 {
			for c := range 256 {
				if m[m[a][b]][c] != m[a][m[b][c]] {
					t.Fatal("order:", a, b, c)
				}
				if m[a][b^c] != m[a][b]^m[a][c] {
					t.Fatal("spread:", a, b, c)
				}
			}
		}
	}
}

// P1.4
func TestOrderOfAListMeansNothing(t *testing.T) {
	l := []byte{3, 200, 17, 255, 142, 1, 90}
	sum, all := gf.Add(l...), gf.Mul(l...)
	for range l {
		l = append(l[1:], l[0])
		if gf.Add(l...) != sum || gf.Mul(l...) != all {
			t.Error(l, gf.Add(l...), gf.Mul(l...))
		}
	}
	for i, j := 0, len(l)-1; i < j; i, j = i+1, j-1 {
		l[i], l[j] = l[j], l[i]
	}
	if gf.Add(l...) != sum || gf.Mul(l...) != all {
		t.Error("backward:", gf.Add(l...), gf.Mul(l...))
	}
}

// P1.4: no two share an Inv, for else a product with it would be 1 for both.
func TestEachByteButZeroHasAnInv(t *testing.T) {
	m := products()
	seen := map[byte]int{}
	for a := 1; a < 256; a++ {
		b, err := gf.Inv(byte(a))
		if err != 0 || m[a][b] != 1 || m[b][a] != 1 {
			t.Error(a, b, int(err))
		}
		seen[b]++
	}
	if len(seen) != 255 || seen[0] != 0 {
		t.Error("not each once:", len(seen), seen[0])
	}
}
