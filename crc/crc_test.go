package crc_test

import (
	"slices"
	"strings"
	"testing"

	"clarion/api"
	"clarion/crc"
)

// The calls as the chapter lists them: with another signature this file does not build.
var (
	_ func(...string) uint32           = crc.Sum
	_ func(uint32, string) uint32      = crc.More
	_ func(string) string              = crc.Seal
	_ func(string) (string, api.Errno) = crc.Open
	_ func() [256]uint32               = crc.Rows
)

// The chapter's examples, as they stand there.
func TestExamples(t *testing.T) {
	if got := crc.Sum("1234", "56789"); got != 0x0376e6e7 {
		t.Errorf("Sum: %#x", got)
	}
	if got := crc.Sum(); got != 0xffffffff {
		t.Errorf("Sum of none: %#x", got)
	}
	if got := opened("abc"); got != (answer{"", api.ErrShort}) {
		t.Errorf("Open: %#v", got)
	}
}

// P5.1: no part, empty parts, and a nil list.
func TestSumOfNothing(t *testing.T) {
	for _, l := range [][]string{nil, {}, {""}, {"", "", ""}} {
		if got := crc.Sum(l...); got != 0xffffffff {
			t.Errorf("%q: %#x", l, got)
		}
	}
}

// P5.1: bit by bit, and by the library's, which is another one's work.
func TestSum(t *testing.T) {
	for _, s := range samples() {
		got := crc.Sum(s)
		if got != slowSum(s) || got != mirrorSum(s) {
			t.Errorf("%q: %#x, not %#x, %#x", s, got, slowSum(s), mirrorSum(s))
		}
	}
}

// P5.1: parts that are none of the same text, one behind the other; their order counts.
func TestSumOfParts(t *testing.T) {
	l := samples()
	for i := range l {
		parts := l[i:min(i+3, len(l))]
		if got, want := crc.Sum(parts...), slowSum(strings.Join(parts, "")); got != want {
			t.Errorf("from %d on: %#x, not %#x", i, got, want)
		}
	}
	if got, want := crc.Sum(l...), slowSum(strings.Join(l, "")); got != want {
		t.Errorf("all: %#x, not %#x", got, want)
	}
	if crc.Sum("ab", "cd") == crc.Sum("cd", "ab") {
		t.Error("the order does not count")
	}
}

// P5.1: each byte behind many registers, those of one bit, of none and of all among them.
func TestMore(t *testing.T) {
	s := noise(7)
	from := []uint32{0, 1, 0xffffffff, 0xfffffffe, 0x7fffffff, 0x04c11db7, s.register(), s.register()}
	for n := range 32 {
		from = append(from, 1<<n, ^uint32(0)<<n)
	}
	for _, sum := range from {
		for n := range 256 {
			b := string([]byte{byte(n)})
			if got, want := crc.More(sum, b), slowMore(sum, b); got != want {
				t.Fatalf("%#x, %d: %#x, not %#x", sum, n, got, want)
			}
		}
	}
}

// P5.1: longer texts, behind the registers at the ends and others.
func TestMoreOfTexts(t *testing.T) {
	s := noise(9)
	for _, text := range samples() {
		for _, sum := range []uint32{0, 0xffffffff, s.register()} {
			if got, want := crc.More(sum, text), slowMore(sum, text); got != want {
				t.Fatalf("%#x, %q: %#x, not %#x", sum, text, got, want)
			}
		}
	}
	if got := crc.More(0, strings.Repeat("\x00", 5000)); got != 0 {
		t.Errorf("bytes 0 behind 0: %#x", got)
	}
}

// P5.1: no bytes leave the register as it was.
func TestMoreOfNothing(t *testing.T) {
	s := noise(11)
	for _, sum := range []uint32{0, 1, 0x80000000, 0xffffffff, 0x0376e6e7, s.register()} {
		if got := crc.More(sum, ""); got != sum {
			t.Errorf("%#x: %#x", sum, got)
		}
	}
}

// P5.1
func TestRows(t *testing.T) {
	rows := crc.Rows()
	for n, row := range rows {
		if want := slowMore(uint32(n)<<24, "\x00"); row != want {
			t.Errorf("%d: %#x, not %#x", n, row, want)
		}
	}
	if rows[0] != 0 || rows[1] != 0x04c11db7 || rows[255] != 0xb1f740b4 {
		t.Errorf("%#x %#x %#x", rows[0], rows[1], rows[255])
	}
}

// R2: the table is the caller's, and no other one hangs on it.
func TestRowsAreTheCallers(t *testing.T) {
	rows := crc.Rows()
	for n := range rows {
		rows[n] = 7
	}
	if crc.Rows()[1] != 0x04c11db7 || crc.Sum("123456789") != 0x0376e6e7 {
		t.Error("a table that is written into is asked again")
	}
}

// P5.2
func TestSeal(t *testing.T) {
	for _, s := range samples() {
		if got, want := crc.Seal(s), slowSeal(s); got != want {
			t.Errorf("%q: %q, not %q", s, got, want)
		}
	}
	for s, want := range map[string]string{"": "\xff\xff\xff\xff", "123456789": "123456789\x03\x76\xe6\xe7", "\xff\xff\xff\xff": "\xff\xff\xff\xff\x00\x00\x00\x00"} {
		if got := crc.Seal(s); got != want {
			t.Errorf("%q: %q, not %q", s, got, want)
		}
	}
}

// P5.2: fewer than four bytes, whatever they are; beside the error nothing is answered (R1).
func TestOpenOfTooFew(t *testing.T) {
	texts := []string{"", "ab", "abc", "\xff\xff", "\xff\xff\xff", "\x00\x00\x00", "\xe2\x82\xac", slowSeal("")[:3], slowSeal("")[1:]}
	for n := range 256 {
		texts = append(texts, string([]byte{byte(n)}))
	}
	for _, s := range texts {
		if got := opened(s); got != (answer{"", api.ErrShort}) {
			t.Errorf("%q: %#v", s, got)
		}
	}
}

// P5.2: of all texts of four bytes just the check sum of none is opened.
func TestOpenOfFour(t *testing.T) {
	if got := opened("\xff\xff\xff\xff"); got != (answer{"", api.OK}) {
		t.Errorf("%#v", got)
	}
	s := noise(13)
	texts := []string{"\x00\x00\x00\x00", "abcd", "\xff\xff\xff\xfe", "\x7f\xff\xff\xff", "\x04\xc1\x1d\xb7", slowSeal("a")[:4], slowSeal("a")[1:]}
	for range 2000 {
		texts = append(texts, s.text(4))
	}
	for _, text := range texts {
		if got := opened(text); got != (answer{"", api.ErrSum}) {
			t.Errorf("%q: %#v", text, got)
		}
	}
}

// P5.2: each byte with its check sum, and with that of another byte.
func TestOpenOfFive(t *testing.T) {
	for n := range 256 {
		b, other := string([]byte{byte(n)}), string([]byte{byte(n + 1)})
		if got := opened(slowSeal(b)); got != (answer{b, api.OK}) {
			t.Errorf("%d: %#v", n, got)
		}
		if got := opened(other + slowSeal(b)[1:]); got != (answer{"", api.ErrSum}) {
			t.Errorf("%d, of another one: %#v", n, got)
		}
	}
}

// P5.2: texts that were sealed, bytes in front of them and behind, and texts that nobody sealed.
func TestOpen(t *testing.T) {
	s := noise(15)
	good, bad := 0, 0
	for _, text := range samples() {
		sealed := slowSeal(text)
		for _, c := range []string{sealed, text, sealed + "\x00", sealed + "\x01", "\x00" + sealed, sealed[1:], sealed + sealed, s.text(len(sealed))} {
			got, want := opened(c), slowOpen(c)
			if got != want {
				t.Errorf("%q: %#v, not %#v", c, got, want)
			}
			if want.e == api.OK {
				good++
			} else {
				bad++
			}
		}
	}
	if good < 300 || bad < 300 {
		t.Error("too few of a kind:", good, bad)
	}
}

// P5.2: the check sum's bytes in another order, or turned over, are none.
func TestOpenOfOtherOrders(t *testing.T) {
	b := []byte(slowSeal("123456789"))
	slices.Reverse(b[9:])
	if got := opened(string(b)); got != (answer{"", api.ErrSum}) {
		t.Errorf("the lowest one first: %#v", got)
	}
	if got := opened(xorAt(slowSeal("123456789"), 9, "\xff\xff\xff\xff")); got != (answer{"", api.ErrSum}) {
		t.Errorf("turned over: %#v", got)
	}
}

// R2: the list of parts is not written into, nor what stands behind it.
func TestPartsAreLeftAlone(t *testing.T) {
	l := []string{"12", "", "345", "6789", "behind"}
	if got := crc.Sum(l[:4]...); got != 0x0376e6e7 {
		t.Errorf("%#x", got)
	}
	if !slices.Equal(l, []string{"12", "", "345", "6789", "behind"}) {
		t.Errorf("%q", l)
	}
}

// R3: what was asked ahead changes nothing.
func TestAskedAgain(t *testing.T) {
	ask := func() [4]uint32 {
		text, e := crc.Open(slowSeal("clarion"))
		return [4]uint32{crc.Sum("cla", "rion"), crc.More(7, "clarion"), crc.Sum(crc.Seal(text)), uint32(e)}
	}
	first, rows := ask(), crc.Rows()
	crc.Sum(samples()...)
	crc.More(3, "x")
	crc.Open("clarion")
	crc.Seal("\x00")
	if ask() != first || crc.Rows() != rows {
		t.Error("another answer")
	}
}
