package datagram_test

import (
	"slices"
	"strings"
	"testing"

	"clarion/datagram"
)

// texts is bytes of many forms: all 0, all 255, of odd and even numbers, with numbers of 16 bits at the ends, and others.
func texts() []string {
	out := []string{"", "\x00", "\x00\x00", "\xff", "\xff\xff", "\x01\x02\x03", "\xff\xff\x00\x01", "\x00\x01\xff\xff", "\xff\x00\x00\xff", "\x80\x00\x80\x00", "\xff\xfe\x00\x01", "\xff\xfe\x00\x02"}
	for _, long := range []int{3, 4, 5, 257, 514, 515, 4080, 4081, 70000, 131070, 131071, 131074, 131076, 400001} {
		out = append(out, strings.Repeat("\x00", long), strings.Repeat("\xff", long), strings.Repeat("\xff\x00", long)[:long], strings.Repeat("\x00\xff", long)[:long], strings.Repeat("\xff\xfe", long)[:long])
	}
	s := noise(9)
	for long := range 60 {
		out = append(out, s.text(long))
	}
	return append(out, s.text(1500), s.text(4079), s.text(65536), s.text(65537))
}

// P7.1: no part, empty ones, and a nil list.
func TestSumOfNothing(t *testing.T) {
	for _, l := range [][]string{nil, {}, {""}, {"", "", ""}} {
		if got := datagram.Sum(l...); got != 65535 {
			t.Errorf("%q: %d", l, got)
		}
	}
}

// P7.1: each byte alone is a high one.
func TestSumOfOneByte(t *testing.T) {
	for n := range 256 {
		if got, want := datagram.Sum(one(n)), 65535-256*n; got != want {
			t.Errorf("%d: %d, not %d", n, got, want)
		}
	}
}

// P7.1: each number of 16 bits.
func TestSumOfTwoBytes(t *testing.T) {
	for n := range 1 << 16 {
		if got := datagram.Sum(two(n)); got != 65535-n {
			t.Fatalf("%d: %d", n, got)
		}
	}
}

// P7.1: what goes beyond 16 bits is added again, and again, if that goes beyond, too.
func TestSumBeyond(t *testing.T) {
	for s, want := range map[string]int{
		"\xff\xff\x00\x01":                 65534, // 0x10000: 1
		"\xff\xff\xff\xff":                 0,     // 0x1fffe: 0xffff
		"\x80\x00\x80\x00":                 65534,
		"\xff\xff\x00\x00":                 0,
		"\xff\xfe\x00\x02\x00\x00":         65534,
		"\xff\xff\xff\xff\x00\x01":         65534, // 0x1ffff: 0x10000: 1
		"\xff\xff\xff\xff\x00\x02":         65533,
		"\xff\x00\xff\x00\xff\x00\x03":     slowSum("\xff\x00\xff\x00\xff\x00\x03"),
		strings.Repeat("\xff\xff", 65537):  0,
		strings.Repeat("\xff\xff", 100000): 0,
	} {
		if got := datagram.Sum(s); got != want {
			t.Errorf("%d bytes %.12q: %d, not %d", len(s), s, got, want)
		}
	}
}

// P7.1: bytes that are all 0, and all 255, as many as there may be in a datagram, and a last one that is odd.
func TestSumOfAllTheSame(t *testing.T) {
	for long := range 600 {
		if got := datagram.Sum(strings.Repeat("\x00", long)); got != 65535 {
			t.Errorf("%d bytes 0: %d", long, got)
		}
		want := 0
		if long == 0 {
			want = 65535
		} else if long%2 != 0 {
			want = 255 // all bits and 0xff00 are 0xff00, where sums go round
		}
		if got := datagram.Sum(strings.Repeat("\xff", long)); got != want {
			t.Errorf("%d bytes 255: %d, not %d", long, got, want)
		}
	}
}

// P7.1: by the words, step by step.
func TestSum(t *testing.T) {
	for _, s := range texts() {
		if got, want := datagram.Sum(s), slowSum(s); got != want {
			t.Errorf("%d bytes %.20q: %d, not %d", len(s), s, got, want)
		}
	}
}

// P7.1: parts that are none of the same text, one behind the other: their order counts, where one of them is odd.
func TestSumOfParts(t *testing.T) {
	l := texts()
	for i := range l {
		parts := l[i:min(i+4, len(l))]
		if got, want := datagram.Sum(parts...), slowSum(strings.Join(parts, "")); got != want {
			t.Errorf("from %d on: %d, not %d", i, got, want)
		}
	}
	if got, want := datagram.Sum(l...), slowSum(strings.Join(l, "")); got != want {
		t.Errorf("all: %d, not %d", got, want)
	}
	if datagram.Sum("a", "bcd") == datagram.Sum("bcd", "a") {
		t.Error("the order does not count")
	}
}

// P7.4: it does not count how bytes are parted: in two and in three, at each place, odd ones among them.
func TestPartedAtEachPlace(t *testing.T) {
	s := noise(11)
	for _, text := range []string{"\x01\x02\x03", "abcdefgh", "\x00\x00\x00\x00\x00", "\xff\xff\xff\xff\xff\xff", "\xff\xff\xff\xff\xff", s.text(30), s.text(31)} {
		want := slowSum(text)
		for i := range len(text) + 1 {
			if got := datagram.Sum(text[:i], text[i:]); got != want {
				t.Errorf("%q at %d: %d, not %d", text, i, got, want)
			}
			for j := i; j <= len(text); j++ {
				if got := datagram.Sum(text[:i], "", text[i:j], text[j:]); got != want {
					t.Errorf("%q at %d and %d: %d, not %d", text, i, j, got, want)
				}
			}
		}
	}
}

// P7.4: byte by byte, with empty parts between, in pieces of odd lengths, and of any.
func TestPartedInMany(t *testing.T) {
	s := noise(13)
	for _, text := range texts() {
		var single, odd, pieces []string
		for i := range min(len(text), 5000) {
			single = append(single, "", text[i:i+1])
		}
		for i := 0; i < len(text); i += 7 {
			odd = append(odd, text[i:min(i+7, len(text))])
		}
		for rest := text; rest != ""; {
			n := s.below(len(rest) + 1)
			pieces, rest = append(pieces, rest[:n]), rest[n:]
		}
		want := slowSum(text)
		if datagram.Sum(odd...) != want || datagram.Sum(pieces...) != want {
			t.Errorf("%d bytes %.20q: %d and %d, not %d", len(text), text, datagram.Sum(odd...), datagram.Sum(pieces...), want)
		}
		if got, want := datagram.Sum(single...), slowSum(text[:min(len(text), 5000)]); got != want {
			t.Errorf("%.20q, byte by byte: %d, not %d", text, got, want)
		}
	}
}

// P7.4: bytes of which one is another one have another Sum: each place, each byte.
func TestOneOtherByte(t *testing.T) {
	s := noise(15)
	for _, text := range []string{"\x00", "\xff", "\x00\x00\x00\x00\x00", "\xff\xff\xff\xff\xff\xff", "\xff\xff\xff\xff\xff", "\x00\x00\x00\xff\xff\xff", good4(5, 17, "body"), s.text(40), s.text(41)} {
		sum := datagram.Sum(text)
		for at := range len(text) {
			for n := range 256 {
				if n != int(text[at]) && datagram.Sum(put(text, at, n)) == sum {
					t.Fatalf("%q: byte %d is %d: the same", text, at, n)
				}
			}
		}
	}
}

// R2: the list of parts is not written into, nor what stands behind it.
func TestPartsAreLeftAlone(t *testing.T) {
	l := []string{"\x01", "", "\x02\x03", "behind"}
	if got := datagram.Sum(l[:3]...); got != 64509 {
		t.Error(got)
	}
	if !slices.Equal(l, []string{"\x01", "", "\x02\x03", "behind"}) {
		t.Errorf("%q", l)
	}
}
