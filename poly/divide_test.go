package poly_test

import (
	"strings"
	"testing"

	"clarion/api"
	"clarion/poly"
)

// divided is what Divide answers, to be held against another one at once.
type divided struct {
	quotient, rest string
	e              api.Errno
}

func divide(a, b string) divided {
	quotient, rest, e := poly.Divide(a, b)
	return divided{quotient, rest, e}
}

// P2.2: beside the error nothing is answered (R1).
func TestDivideByZero(t *testing.T) {
	for _, b := range []string{"", "\x00", "\x00\x00\x00", strings.Repeat("\x00", 300)} {
		for _, a := range samples() {
			if got := divide(a, b); got != (divided{"", "", api.ErrZero}) {
				t.Errorf("Divide(%q, %q): %#v", a, b, got)
			}
		}
	}
}

// P2.2
func TestDivide(t *testing.T) {
	for _, c := range []struct{ a, b, quotient, rest string }{
		// by a constant
		{"\x06", "\x02", "\x03", ""}, {"\x06", "\x02\x00", "\x03", ""}, {"ab", "\x01", "ab", ""}, {"\x1d\x09", "\x02\x00\x00", "\x80\x8a", ""},
		// by one of a higher degree
		{"\x05", "\x01\x01", "", "\x05"}, {"\x05\x00\x00\x00", "\x01\x01", "", "\x05"}, {"ab", "\x00\x00\x01", "", "ab"},
		// by one of the same degree
		{"\x05\x03", "\x01\x01", "\x03", "\x06"}, {"ab", "ab", "\x01", ""}, {"\x05\x03\x00", "\x00\x03\x00\x00", "\x01", "\x05"},
		// nothing is left
		{"\x02\x03\x01", "\x02\x01", "\x01\x01", ""}, {"\x02\x03\x01", "\x01\x01", "\x02\x01", ""}, {"\x01\x00\x01", "\x01\x01", "\x01\x01", ""}, {"\x00\x00\x00\x07", "\x00\x01", "\x00\x00\x07", ""},
		// something is left
		{"\x05\x00\x01", "\x01\x01", "\x01\x01", "\x04"}, {"abc", "\x00\x01", "bc", "a"}, {"\x00b\x00c", "\x00\x00\x01", "\x00c", "\x00b"},
		// of 0
		{"", "\x09", "", ""}, {"\x00\x00", "\x09", "", ""}, {"", "\x09\x01", "", ""}, {"\x00\x00\x00\x00", "\x09\x01", "", ""},
	} {
		if got := divide(c.a, c.b); got != (divided{c.quotient, c.rest, api.OK}) {
			t.Errorf("Divide(%q, %q): %#v", c.a, c.b, got)
		}
	}
}

// P2.2: the promise's own words, of which there is just one answer: a rest of a lesser degree, and all of it together again. No byte 0 stands at the end of either.
func TestDivideLeavesLessAndIsTogetherAgain(t *testing.T) {
	for _, a := range samples() {
		for _, b := range samples() {
			if cut(b) == "" {
				continue
			}
			got := divide(a, b)
			if got.e != api.OK || got.quotient != cut(got.quotient) || got.rest != cut(got.rest) {
				t.Fatalf("Divide(%q, %q): %#v", a, b, got)
			}
			if len(got.rest) >= len(cut(b)) || slowAdd(slowMul(got.quotient, b), got.rest) != cut(a) {
				t.Fatalf("Divide(%q, %q): %#v", a, b, got)
			}
		}
	}
}

// P2.2: what was put together comes apart again.
func TestDivideOfAProductAndARest(t *testing.T) {
	for _, quotient := range samples() {
		for _, b := range samples() {
			if cut(b) == "" {
				continue
			}
			rest := "\x09\x00\x07\x01"[:min(4, len(cut(b))-1)]
			a := slowAdd(slowMul(quotient, b), rest)
			if got := divide(a+"\x00\x00", b); got != (divided{cut(quotient), cut(rest), api.OK}) {
				t.Fatalf("Divide(%q, %q): %#v", a, b, got)
			}
		}
	}
}

// P2.2: all bytes as constants, by each other.
func TestDivideOfConstants(t *testing.T) {
	for a := range 256 {
		for b := 1; b < 256; b++ {
			p, q := string([]byte{byte(a)}), string([]byte{byte(b)})
			if got := divide(p, q); got.e != api.OK || got.rest != "" || slowMul(got.quotient, q) != cut(p) {
				t.Fatalf("Divide(%q, %q): %#v", p, q, got)
			}
		}
	}
}
