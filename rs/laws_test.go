package rs_test

import (
	"testing"

	"clarion/api"
	"clarion/gf"
	"clarion/rs"
)

// P3.3
func TestTwoWordsXoredAreAWord(t *testing.T) {
	l := words()
	for _, a := range l {
		for _, b := range l {
			if !rs.Is(xor(a, b)) {
				t.Fatalf("%q, %q", a, b)
			}
		}
	}
}

// P3.3: the parity of data xor-ed is the parities, xor-ed.
func TestParityOfDataXored(t *testing.T) {
	l := samples()
	for _, a := range l {
		for _, b := range l {
			if got, want := told(rs.Encode(xor(a, b))), xor(told(rs.Encode(a)).text, told(rs.Encode(b)).text); got != (answer{want, api.OK}) {
				t.Fatalf("%q, %q: %#v, not %q", a, b, got, want)
			}
		}
	}
}

// P3.3
func TestAWordTimesAByteIsAWord(t *testing.T) {
	for _, w := range words()[5:9] {
		for c := range 256 {
			product := times(w, byte(c))
			if !rs.Is(product) || told(rs.Word(product[:191])).text != product {
				t.Fatalf("%q, %d", w, c)
			}
		}
	}
}

// P3.3: one byte, at each place.
func TestOneByteTurnedIsNoWord(t *testing.T) {
	s := noise(19)
	for _, w := range words()[:10] {
		for i := range 255 {
			if text := s.turn(w, []int{i}); rs.Is(text) {
				t.Fatalf("%q, place %d", w, i)
			}
		}
	}
}

// P3.3: each other byte at a place.
func TestEachOtherByteIsNoWord(t *testing.T) {
	w := words()[20]
	for _, i := range []int{0, 1, 100, 190, 191, 253, 254} {
		for c := 1; c < 256; c++ {
			text := []byte(w)
			text[i] ^= byte(c)
			if rs.Is(string(text)) {
				t.Fatal(i, c)
			}
		}
	}
}

// P3.3: from one to 64 bytes, in a row at both ends, as the parity alone, and anywhere.
func TestUpTo64BytesTurnedIsNoWord(t *testing.T) {
	s := noise(23)
	w := words()[15]
	for n := 1; n <= 64; n++ {
		front, behind := make([]int, n), make([]int, n)
		for i := range n {
			front[i], behind[i] = i, 254-i
		}
		for _, at := range [][]int{front, behind, s.places(n), s.places(n), s.places(n)} {
			if text := s.turn(w, at); rs.Is(text) {
				t.Fatal(n, at)
			}
		}
	}
}

// P3.3, its edge: 65 bytes may make another word, as the generator has no more.
func Test65BytesMayMakeAnotherWord(t *testing.T) {
	g := backward(slowGenerator())
	for i := range len(g) {
		if g[i] == 0 {
			t.Fatal("fewer than 65:", i)
		}
	}
	for _, w := range words()[10:14] {
		for _, front := range []int{0, 1, 95, 190} {
			other := nulls(front) + g + nulls(190-front)
			if !rs.Is(xor(w, other)) {
				t.Errorf("%q, %d", w, front)
			}
			// 64 of the 65 are one too few, whichever is left out.
			for i := range 65 {
				text := []byte(xor(w, other))
				text[front+i] = w[front+i]
				if rs.Is(string(text)) {
					t.Fatal(front, i)
				}
			}
		}
	}
}

// P3.3: a word moved round is a word, as 255 powers of 2 are 1 again: Is does not hang on where the parity stands.
func TestAWordMovedRoundIsAWord(t *testing.T) {
	if gf.Exp(255) != 1 {
		t.Fatal("gf")
	}
	w := words()[16]
	for n := range 255 {
		if !rs.Is(w[n:] + w[:n]) {
			t.Fatal(n)
		}
	}
}
