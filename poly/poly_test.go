package poly_test

import (
	"slices"
	"strings"
	"testing"

	"clarion/api"
	"clarion/poly"
)

// The calls as the chapter lists them: with another signature this file does not build.
var (
	_ func(string) string                              = poly.Trim
	_ func(string) int                                 = poly.Degree
	_ func(...string) string                           = poly.Add
	_ func(string, string) string                      = poly.Mul
	_ func(string, string) (string, string, api.Errno) = poly.Divide
	_ func(string, byte) byte                          = poly.At
	_ func(string) string                              = poly.Slope
	_ func(string) string                              = poly.Roots
)

// P2.1
func TestTrim(t *testing.T) {
	for _, c := range []struct{ p, want string }{
		{"", ""}, {"\x00", ""}, {"\x00\x00\x00", ""},
		{"a", "a"}, {"a\x00", "a"}, {"a\x00\x00", "a"},
		{"\x00a", "\x00a"}, {"\x00a\x00", "\x00a"}, {"a\x00b\x00", "a\x00b"},
		{"\xff\x80", "\xff\x80"}, {"\x01\x00\x00\x00\x02", "\x01\x00\x00\x00\x02"},
		{strings.Repeat("\x00", 5000), ""}, {"a" + strings.Repeat("\x00", 5000), "a"},
	} {
		if got := poly.Trim(c.p); got != c.want {
			t.Errorf("Trim(%q): %q, not %q", c.p, got, c.want)
		}
	}
}

// P2.1
func TestDegree(t *testing.T) {
	for _, c := range []struct {
		p    string
		want int
	}{
		{"", -1}, {"\x00", -1}, {"\x00\x00", -1},
		{"\x01", 0}, {"\xff", 0}, {"\x05\x00\x00", 0},
		{"\x00\x05", 1}, {"\x00\x05\x00", 1}, {"\x05\x07", 1},
		{"\x01\x00\x00\x80", 3}, {"\x00\x00\x00\x01", 3},
		{strings.Repeat("\x00", 5000), -1}, {strings.Repeat("a", 5000), 4999},
	} {
		if got := poly.Degree(c.p); got != c.want {
			t.Errorf("Degree(%q): %d, not %d", c.p, got, c.want)
		}
	}
}

// P2.1: sums of none, of one, of polynomials of many lengths, and those whose highest powers vanish.
func TestAdd(t *testing.T) {
	for _, c := range []struct {
		l    []string
		want string
	}{
		{nil, ""}, {[]string{}, ""},
		{[]string{""}, ""}, {[]string{"\x00\x00"}, ""}, {[]string{"ab"}, "ab"}, {[]string{"ab\x00"}, "ab"},
		{[]string{"\x05", "\x03"}, "\x06"},
		{[]string{"\x01\x02", "\x01\x02\x04", "\x08"}, "\x08\x00\x04"},
		{[]string{"\x08", "\x01\x02\x04"}, "\x09\x02\x04"},
		{[]string{"\x01\x02\x04", "\x08"}, "\x09\x02\x04"},
		{[]string{"ab", "ab"}, ""}, {[]string{"ab", "ab", "ab"}, "ab"},
		{[]string{"\x01\x02\x03", "\x04\x02\x03"}, "\x05"},
		{[]string{"\x01\x02\x03", "\x01\x02\x04\x00"}, "\x00\x00\x07"},
		{[]string{"\x01\x09\x03", "\x02\x00\x03\x00\x00"}, "\x03\x09"},
		{[]string{"", "\x00", "\x07", ""}, "\x07"},
	} {
		if got := poly.Add(c.l...); got != c.want {
			t.Errorf("Add(%q): %q, not %q", c.l, got, c.want)
		}
	}
}

// P2.1
func TestMul(t *testing.T) {
	for _, c := range []struct{ a, b, want string }{
		{"", "", ""}, {"", "ab", ""}, {"ab", "", ""}, {"\x00", "ab", ""}, {"ab", "\x00\x00", ""}, {"\x00", "\x00", ""},
		{"\x01", "ab", "ab"}, {"ab", "\x01", "ab"}, {"ab\x00", "\x01\x00\x00", "ab"},
		{"\x02", "\x80", "\x1d"}, {"\x03", "\x07", "\x09"}, {"\x02", "\x80\x00\x01", "\x1d\x00\x02"},
		{"\x00\x01", "ab", "\x00ab"}, {"\x00\x00\x01", "\x00\x01", "\x00\x00\x00\x01"},
		{"\x01\x01", "\x01\x01", "\x01\x00\x01"}, {"\x01\x01", "\x02\x01", "\x02\x03\x01"},
		{"\x01\x01\x00", "\x02\x01\x00\x00", "\x02\x03\x01"},
	} {
		if got := poly.Mul(c.a, c.b); got != c.want {
			t.Errorf("Mul(%q, %q): %q, not %q", c.a, c.b, got, c.want)
		}
	}
}

// P2.1: two of many forms, held against the chapter's words.
func TestSumsAndProductsOfTwo(t *testing.T) {
	for _, a := range samples() {
		for _, b := range samples() {
			if got, want := poly.Add(a, b), slowAdd(a, b); got != want {
				t.Fatalf("Add(%q, %q): %q, not %q", a, b, got, want)
			}
			if got, want := poly.Mul(a, b), slowMul(a, b); got != want {
				t.Fatalf("Mul(%q, %q): %q, not %q", a, b, got, want)
			}
		}
	}
}

// P2.3
func TestAt(t *testing.T) {
	for _, c := range []struct {
		p    string
		x    byte
		want byte
	}{
		{"", 0, 0}, {"", 9, 0}, {"\x00\x00", 0, 0}, {"\x00\x00", 9, 0},
		{"\x07", 0, 7}, {"\x07", 1, 7}, {"\x07", 200, 7}, {"\x07\x00", 200, 7},
		{"\x02\x03\x01", 0, 2}, {"\x02\x03\x01", 1, 0}, {"\x02\x03\x01", 2, 0}, {"\x02\x03\x01\x00\x00", 2, 0},
		{"\x00\x05\x09", 0, 0}, {"\x05\x03\x09", 1, 15},
		{"\x00\x02", 128, 29}, {"\x03\x02", 128, 30}, {"\x00\x00\x01", 16, 29}, {"\x00\x00\x00\x00\x00\x00\x00\x00\x01", 2, 29},
	} {
		if got := poly.At(c.p, c.x); got != c.want {
			t.Errorf("At(%q, %d): %d, not %d", c.p, c.x, got, c.want)
		}
	}
	for _, p := range samples() {
		for x := range 256 {
			if got, want := poly.At(p, byte(x)), slowAt(p, byte(x)); got != want {
				t.Fatalf("At(%q, %d): %d, not %d", p, x, got, want)
			}
		}
	}
}

// P2.3: constants, even and odd powers, and highest powers that vanish.
func TestSlope(t *testing.T) {
	for _, c := range []struct{ p, want string }{
		{"", ""}, {"\x00", ""}, {"\x00\x00", ""}, {"a", ""}, {"a\x00", ""}, {"a\x00\x00\x00", ""},
		{"\x00\x01", "\x01"}, {"\x05\x07", "\x07"}, {"\x00\x00\x01", ""}, {"\x00\x00\x00\x01", "\x00\x00\x01"}, {"\x00\x00\x00\x00\x01", ""},
		{"\x05\x07\x09", "\x07"}, {"\x05\x07\x09\x0b", "\x07\x00\x0b"}, {"\x05\x07\x09\x0b\x0d", "\x07\x00\x0b"},
		{"\x05\x07\x09\x00\x0d", "\x07"}, {"\x05\x00\x09\x00\x0d", ""}, {"\x05\x00\x09\xff", "\x00\x00\xff"},
		{"\x05\x07\x00", "\x07"}, {"\x05\x07\x00\x00\x00", "\x07"},
	} {
		if got := poly.Slope(c.p); got != c.want {
			t.Errorf("Slope(%q): %q, not %q", c.p, got, c.want)
		}
	}
	for _, p := range samples() {
		if got, want := poly.Slope(p), slowSlope(p); got != want {
			t.Errorf("Slope(%q): %q, not %q", p, got, want)
		}
	}
}

// P2.3: of none, of one, of 0, and of a byte that is there twice and more.
func TestRoots(t *testing.T) {
	for _, c := range []struct{ l, want string }{
		{"", "\x01"}, {"\x00", "\x00\x01"}, {"\x01", "\x01\x01"}, {"\xff", "\xff\x01"},
		{"\x01\x02", "\x02\x03\x01"}, {"\x02\x01", "\x02\x03\x01"},
		{"\x00\x00", "\x00\x00\x01"}, {"\x01\x01", "\x01\x00\x01"}, {"\x02\x02", "\x04\x00\x01"}, {"\x10\x10", "\x1d\x00\x01"},
		{"\x01\x01\x01", "\x01\x01\x01\x01"}, {"\x01\x00\x02\x00", "\x00\x00\x02\x03\x01"},
	} {
		if got := poly.Roots(c.l); got != c.want {
			t.Errorf("Roots(%q): %q, not %q", c.l, got, c.want)
		}
	}
	for _, l := range samples() {
		if got, want := poly.Roots(l), slowRoots(l); got != want {
			t.Errorf("Roots(%q): %q, not %q", l, got, want)
		}
	}
}

// The chapter's examples, as they stand there.
func TestExamples(t *testing.T) {
	p := poly.Roots("\x01\x02")
	quotient, rest, e := poly.Divide(p, "\x02\x01")
	if p != "\x02\x03\x01" || poly.At(p, 1) != 0 || quotient != "\x01\x01" || rest != "" || e != api.OK {
		t.Errorf("%q, %d, %q, %q, %d", p, poly.At(p, 1), quotient, rest, int(e))
	}
}

// R2: neither the list nor what stands behind its length is written into.
func TestListsAreLeftAlone(t *testing.T) {
	all := []string{"a\x00", "bc\x00", "\x00", "def", "", "g"}
	keep := slices.Clone(all)
	poly.Add(all[1:4]...)
	if !slices.Equal(all, keep) {
		t.Errorf("%q", all)
	}
}

// R3: what was asked ahead changes nothing.
func TestCallsAreApart(t *testing.T) {
	for range 3 {
		quotient, rest, e := poly.Divide("\x05\x00\x01", "\x01\x01")
		if quotient != "\x01\x01" || rest != "\x04" || e != api.OK || poly.Roots("\x01\x02") != "\x02\x03\x01" || poly.Mul("\x02", "\x80") != "\x1d" || poly.Add("\x05", "\x03") != "\x06" || poly.At("\x02\x03\x01", 0) != 2 || poly.Slope("\x05\x07") != "\x07" || poly.Trim("a\x00") != "a" || poly.Degree("a\x00") != 0 {
			t.Errorf("%q, %q, %d", quotient, rest, int(e))
		}
		poly.Divide("ab", "")
	}
}
