package gf_test

import (
	"bytes"
	"math"
	"testing"

	"clarion/api"
	"clarion/gf"
)

// answer is a call's byte and error, to be held against another one at once.
type answer struct {
	got byte
	err api.Errno
}

func told(got byte, err api.Errno) answer { return answer{got, err} }

// The calls as the chapter lists them: with another signature this file does not build.
var (
	_ func(...byte) byte                     = gf.Add
	_ func(...byte) byte                     = gf.Mul
	_ func(byte) (byte, api.Errno)           = gf.Inv
	_ func(byte, byte) (byte, api.Errno)     = gf.Div
	_ func(int) byte                         = gf.Exp
	_ func(byte) (int, api.Errno)            = gf.Log
	_ func(byte, int) (byte, api.Errno)      = gf.Pow
	_ func(string, string) (byte, api.Errno) = gf.Dot
	_ func() *gf.Field                       = gf.New
	_ func(*gf.Field, byte, byte) byte       = (*gf.Field).Mul
	_ func(*gf.Field, byte) byte             = (*gf.Field).Inv
	_ func(*gf.Field, int) byte              = (*gf.Field).Exp
	_ func(*gf.Field, byte) int              = (*gf.Field).Log
)

// P1.1
func TestAddIsTheSumOfAll(t *testing.T) {
	for _, c := range []struct {
		l    []byte
		want byte
	}{{nil, 0}, {[]byte{}, 0}, {[]byte{7}, 7}, {[]byte{0}, 0}, {[]byte{5, 3}, 6}, {[]byte{255, 255}, 0}, {[]byte{1, 2, 4, 8}, 15}, {[]byte{9, 9, 9}, 9}, {[]byte{200, 100, 0}, 172}} {
		if got := gf.Add(c.l...); got != c.want {
			t.Errorf("Add(%v): %d, not %d", c.l, got, c.want)
		}
	}
}

// P1.1
func TestMulOfTwoIsTheProductOfPolynomials(t *testing.T) {
	for a := range 256 {
		for b := range 256 {
			if got, want := gf.Mul(byte(a), byte(b)), slowMul(byte(a), byte(b)); got != want {
				t.Fatalf("Mul(%d, %d): %d, not %d", a, b, got, want)
			}
		}
	}
}

// P1.1
func TestMulOfLists(t *testing.T) {
	for _, c := range []struct {
		l    []byte
		want byte
	}{{nil, 1}, {[]byte{}, 1}, {[]byte{0}, 0}, {[]byte{7}, 7}, {[]byte{2, 128}, 29}, {[]byte{3, 7}, 9}, {[]byte{2, 2, 2}, 8}, {[]byte{5, 0, 9}, 0}, {[]byte{0, 0}, 0}, {bytes.Repeat([]byte{2}, 255), 1}, {bytes.Repeat([]byte{2}, 263), 29}} {
		if got := gf.Mul(c.l...); got != c.want {
			t.Errorf("Mul(%v): %d, not %d", c.l, got, c.want)
		}
	}
}

// P1.1
func TestDot(t *testing.T) {
	for _, c := range []struct {
		a, b string
		want answer
	}{
		{"", "", answer{0, api.OK}},
		{"\x02", "\x80", answer{29, api.OK}},
		{"\x02\x03", "\x80\x07", answer{29 ^ 9, api.OK}},
		{"\x00\x00\x05", "\xff\x07\x00", answer{0, api.OK}},
		{"\xff\xff", "\xff\xff", answer{0, api.OK}},
		{"a", "", answer{0, api.ErrArg}},
		{"", "a", answer{0, api.ErrArg}},
		{"abc", "ab", answer{0, api.ErrArg}},
		{"ab", "abc", answer{0, api.ErrArg}},
	} {
		if got := told(gf.Dot(c.a, c.b)); got != c.want {
			t.Errorf("Dot(%q, %q): %v, not %v", c.a, c.b, got, c.want)
		}
	}
}

// P1.1
func TestDotOfLongTexts(t *testing.T) {
	a, b, want := make([]byte, 1000), make([]byte, 1000), byte(0)
	for i := range a {
		a[i], b[i] = byte(i*7+3), byte(i*i+i/9)
		want ^= slowMul(a[i], b[i])
	}
	if got := told(gf.Dot(string(a), string(b))); got != (answer{want, api.OK}) {
		t.Errorf("%v, not %d", got, want)
	}
}

// P1.2
func TestInv(t *testing.T) {
	if got := told(gf.Inv(0)); got != (answer{0, api.ErrZero}) {
		t.Error("Inv(0):", got)
	}
	if got := told(gf.Inv(2)); got != (answer{142, api.OK}) {
		t.Error("Inv(2):", got)
	}
	for a := 1; a < 256; a++ {
		got := told(gf.Inv(byte(a)))
		if got.err != api.OK || slowMul(byte(a), got.got) != 1 {
			t.Errorf("Inv(%d): %v", a, got)
		}
	}
}

// P1.2
func TestDiv(t *testing.T) {
	for a := range 256 {
		if got := told(gf.Div(byte(a), 0)); got != (answer{0, api.ErrZero}) {
			t.Errorf("Div(%d, 0): %v", a, got)
		}
		for b := 1; b < 256; b++ {
			got := told(gf.Div(byte(a), byte(b)))
			if got.err != api.OK || slowMul(got.got, byte(b)) != byte(a) {
				t.Fatalf("Div(%d, %d): %v", a, b, got)
			}
		}
	}
	if got := told(gf.Div(0, 5)); got != (answer{0, api.OK}) {
		t.Error("Div(0, 5):", got)
	}
}

// P1.3
func TestExp(t *testing.T) {
	for _, c := range []struct {
		n    int
		want byte
	}{{0, 1}, {1, 2}, {7, 128}, {8, 29}, {254, 142}, {255, 1}, {256, 2}, {510, 1}, {-1, 142}, {-254, 2}, {-255, 1}, {-256, 142}, {-510, 1}} {
		if got := gf.Exp(c.n); got != c.want {
			t.Errorf("Exp(%d): %d, not %d", c.n, got, c.want)
		}
	}
	for n := -600; n <= 600; n++ {
		if got, want := gf.Exp(n), slowSigned(2, n); got != want {
			t.Errorf("Exp(%d): %d, not %d", n, got, want)
		}
	}
}

// P1.3: both ends of the ints leave 127, if 255 is taken off as often as it goes.
func TestExpAtTheEndsOfTheInts(t *testing.T) {
	want := slowPow(2, 127)
	if got := gf.Exp(math.MaxInt); got != want {
		t.Errorf("of the greatest: %d, not %d", got, want)
	}
	if got := gf.Exp(math.MinInt); got != want {
		t.Errorf("of the least: %d, not %d", got, want)
	}
	if gf.Exp(math.MaxInt) != slowMul(gf.Exp(math.MaxInt-1), 2) || gf.Exp(math.MinInt+1) != slowMul(gf.Exp(math.MinInt), 2) {
		t.Error("a step is not a factor 2")
	}
}

// P1.3
func TestLog(t *testing.T) {
	if n, err := gf.Log(0); n != 0 || err != api.ErrZero {
		t.Error("Log(0):", n, int(err))
	}
	for _, c := range []struct {
		a    byte
		want int
	}{{1, 0}, {2, 1}, {3, 25}, {29, 8}, {142, 254}} {
		if n, err := gf.Log(c.a); n != c.want || err != api.OK {
			t.Errorf("Log(%d): %d, %d, not %d", c.a, n, int(err), c.want)
		}
	}
	for a := 1; a < 256; a++ {
		n, err := gf.Log(byte(a))
		if err != api.OK || n < 0 || n > 254 || slowPow(2, n) != byte(a) || gf.Exp(n) != byte(a) {
			t.Errorf("Log(%d): %d, %d", a, n, int(err))
		}
	}
}

// P1.3
func TestPowOfZero(t *testing.T) {
	for _, c := range []struct {
		n    int
		want answer
	}{{0, answer{1, api.OK}}, {1, answer{0, api.OK}}, {255, answer{0, api.OK}}, {math.MaxInt, answer{0, api.OK}}, {-1, answer{0, api.ErrZero}}, {-255, answer{0, api.ErrZero}}, {math.MinInt, answer{0, api.ErrZero}}} {
		if got := told(gf.Pow(0, c.n)); got != c.want {
			t.Errorf("Pow(0, %d): %v, not %v", c.n, got, c.want)
		}
	}
}

// P1.3
func TestPowOfOthers(t *testing.T) {
	for a := 1; a < 256; a++ {
		for _, n := range []int{0, 1, 2, 3, 7, 127, 128, 254, 255, 256, 300, 510, 511, -1, -2, -7, -128, -254, -255, -256, -511} {
			if got, want := told(gf.Pow(byte(a), n)), slowSigned(byte(a), n); got != (answer{want, api.OK}) {
				t.Fatalf("Pow(%d, %d): %v, not %d", a, n, got, want)
			}
		}
	}
}

// P1.3: both ends of the ints leave 127, if 255 is taken off as often as it goes.
func TestPowAtTheEndsOfTheInts(t *testing.T) {
	for a := 1; a < 256; a++ {
		want := answer{slowPow(byte(a), 127), api.OK}
		if got := told(gf.Pow(byte(a), math.MaxInt)); got != want {
			t.Errorf("Pow(%d, the greatest): %v, not %v", a, got, want)
		}
		if got := told(gf.Pow(byte(a), math.MinInt)); got != want {
			t.Errorf("Pow(%d, the least): %v, not %v", a, got, want)
		}
	}
}

// The chapter's examples, as they stand there.
func TestExamples(t *testing.T) {
	inv, _ := gf.Inv(2)
	log, _ := gf.Log(3)
	if gf.Mul(2, 128) != 29 || gf.Mul(3, 7) != 9 || inv != 142 || log != 25 || gf.Exp(255) != 1 || gf.Add(5, 3) != 6 {
		t.Error(gf.Mul(2, 128), gf.Mul(3, 7), inv, log, gf.Exp(255), gf.Add(5, 3))
	}
}

// R2: neither the list nor what stands behind its length is written into.
func TestListsAreLeftAlone(t *testing.T) {
	all := []byte{5, 3, 9, 200, 77, 1}
	keep := bytes.Clone(all)
	gf.Add(all[1:3]...)
	gf.Mul(all[1:3]...)
	if !bytes.Equal(all, keep) {
		t.Error(all)
	}
}
