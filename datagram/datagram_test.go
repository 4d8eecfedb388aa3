package datagram_test

import (
	"math"
	"strings"
	"testing"

	"clarion/api"
	"clarion/datagram"
)

// The calls as the chapter lists them: with another signature this file does not build.
var (
	_ func(string) (datagram.Head, api.Errno)                   = datagram.Peek
	_ func(string) api.Errno                                    = datagram.Check
	_ func(...string) int                                       = datagram.Sum
	_ func([4]byte, [4]byte, int, string) (string, api.Errno)   = datagram.Make4
	_ func([16]byte, [16]byte, int, string) (string, api.Errno) = datagram.Make6
	_ func(string) ([]string, api.Errno)                        = datagram.Split
	_ func(...string) (string, api.Errno)                       = datagram.Join
	_ struct{ Version, Header, Length, Proto int }              = datagram.Head{}
)

// The chapter's examples, as they stand there.
func TestExamples(t *testing.T) {
	if got := datagram.Sum("\x01\x02\x03"); got != 64509 {
		t.Error("Sum:", got)
	}
	s, e := datagram.Make4([4]byte{}, [4]byte{}, 17, "")
	if e != api.OK || len(s) != 20 || datagram.Sum(s) != 0 {
		t.Errorf("Make4: %q %v", s, e)
	}
}

// made is what Make4 and Make6 answer, to be held against another one at once.
type made struct {
	text string
	e    api.Errno
}

func made4(from, to [4]byte, proto int, body string) made {
	s, e := datagram.Make4(from, to, proto, body)
	return made{s, e}
}

func made6(from, to [16]byte, proto int, body string) made {
	s, e := datagram.Make6(from, to, proto, body)
	return made{s, e}
}

var (
	from4 = [4]byte{1, 2, 3, 4}
	to4   = [4]byte{250, 251, 252, 253}
	from6 = [16]byte{1, 2, 3, 4, 5, 6, 7, 8, 9, 10, 11, 12, 13, 14, 15, 16}
	to6   = [16]byte{255, 254, 253, 252, 251, 250, 249, 248, 247, 246, 245, 244, 243, 242, 241, 240}
)

// slow4 is what Make4 must make of these ends.
func slow4(proto int, body string) string {
	ahead := "\x45\x00" + two(20+len(body)) + "\x00\x00\x00\x00\x40" + one(proto)
	ends := "\x01\x02\x03\x04\xfa\xfb\xfc\xfd"
	return ahead + two(slowSum(ahead+"\x00\x00"+ends)) + ends + body
}

// slow6 is what Make6 must make of these ends.
func slow6(proto int, body string) string {
	return "\x60\x00\x00\x00" + two(len(body)) + one(proto) + "\x40" +
		"\x01\x02\x03\x04\x05\x06\x07\x08\x09\x0a\x0b\x0c\x0d\x0e\x0f\x10" + "\xff\xfe\xfd\xfc\xfb\xfa\xf9\xf8\xf7\xf6\xf5\xf4\xf3\xf2\xf1\xf0" + body
}

// P7.2: byte by byte, the sum worked out by hand.
func TestMadeByHand(t *testing.T) {
	// 4500 + 0016 + 4011 + 0a01 + 0203 + e004 + 0506 is 17635: beyond 16 bits 1, so 7636; turned over 89c9.
	want := "\x45\x00\x00\x16" + "\x00\x00\x00\x00" + "\x40\x11\x89\xc9" + "\x0a\x01\x02\x03" + "\xe0\x04\x05\x06" + "hi"
	if got := made4([4]byte{10, 1, 2, 3}, [4]byte{224, 4, 5, 6}, 17, "hi"); got != (made{want, api.OK}) {
		t.Errorf("%q", got.text)
	}
	want = "\x60\x00\x00\x00\x00\x02\x3a\x40" + "\x20\x01" + strings.Repeat("\x00", 13) + "\x01" + "\xff\x02" + strings.Repeat("\x00", 13) + "\x02" + "hi"
	if got := made6([16]byte{0: 32, 1: 1, 15: 1}, [16]byte{0: 255, 1: 2, 15: 2}, 58, "hi"); got != (made{want, api.OK}) {
		t.Errorf("%q", got.text)
	}
}

// P7.2: no body, short ones, and those up to 4080 bytes in all; behind them, and where a length would come round in 16 bits, ErrRange.
func TestMakeOfBodies(t *testing.T) {
	s := noise(17)
	for _, long := range []int{0, 1, 2, 3, 215, 216, 235, 236, 237, 1000, 4039, 4040, 4041, 4059, 4060, 4061, 4080, 4081, 65515, 65516, 65535, 65536, 70000, 1 << 20} {
		body := s.text(long)
		want := made{e: api.ErrRange}
		if long <= 4060 {
			want = made{text: slow4(17, body)}
		}
		if got := made4(from4, to4, 17, body); got != want {
			t.Errorf("version 4 of %d: %d bytes, %v, not %d, %v", long, len(got.text), got.e, len(want.text), want.e)
		}
		want = made{e: api.ErrRange}
		if long <= 4040 {
			want = made{text: slow6(17, body)}
		}
		if got := made6(from6, to6, 17, body); got != want {
			t.Errorf("version 6 of %d: %d bytes, %v, not %d, %v", long, len(got.text), got.e, len(want.text), want.e)
		}
	}
}

// P7.2: all protocols.
func TestMakeOfProtocols(t *testing.T) {
	for proto := range 256 {
		for _, body := range []string{"", "body"} {
			if got := made4(from4, to4, proto, body); got != (made{slow4(proto, body), api.OK}) {
				t.Errorf("version 4, %d: %q, %v", proto, got.text, got.e)
			}
			if got := made6(from6, to6, proto, body); got != (made{slow6(proto, body), api.OK}) {
				t.Errorf("version 6, %d: %q, %v", proto, got.text, got.e)
			}
		}
	}
}

// P7.2: protocols that may not be; and, with a body that may not be either, ErrArg first (R1).
func TestMakeOfNoProtocol(t *testing.T) {
	for _, proto := range []int{-1, 256, -256, -255, 257, 512, 1<<16 + 17, 1<<32 + 17, math.MinInt, math.MinInt + 17, math.MaxInt} {
		for _, long := range []int{0, 4, 4040, 4041, 4060, 4061, 70000} {
			body := strings.Repeat("x", long)
			if got := made4(from4, to4, proto, body); got != (made{e: api.ErrArg}) {
				t.Errorf("version 4, %d, %d bytes: %d bytes, %v", proto, long, len(got.text), got.e)
			}
			if got := made6(from6, to6, proto, body); got != (made{e: api.ErrArg}) {
				t.Errorf("version 6, %d, %d bytes: %d bytes, %v", proto, long, len(got.text), got.e)
			}
		}
	}
	for _, proto := range []int{0, 255} { // these may be: the body alone is wrong
		if got := made4(from4, to4, proto, strings.Repeat("x", 4061)); got != (made{e: api.ErrRange}) {
			t.Errorf("version 4, %d: %v", proto, got.e)
		}
		if got := made6(from6, to6, proto, strings.Repeat("x", 4041)); got != (made{e: api.ErrRange}) {
			t.Errorf("version 6, %d: %v", proto, got.e)
		}
	}
}

// P7.2: ends of which the sum is a number at the ends, too; the header's Sum is 0 with all of them.
func TestMakeOfEnds(t *testing.T) {
	s := noise(19)
	ends := []string{"\x00\x00\x00\x00\x00\x00\x00\x00", "\xff\xff\xff\xff\xff\xff\xff\xff", "\x00\x00\x00\x00\x00\x00\x7a\xda", "\x00\x00\x00\x00\x00\x00\x7a\xdb", "\x00\x00\x00\x00\x00\x00\x7a\xd9"}
	for range 500 {
		ends = append(ends, s.text(8))
	}
	null := 0
	for _, both := range ends {
		got := made4([4]byte([]byte(both[:4])), [4]byte([]byte(both[4:])), 17, "")
		ahead := "\x45\x00\x00\x14\x00\x00\x00\x00\x40\x11"
		want := ahead + two(slowSum(ahead+both)) + both
		if got != (made{want, api.OK}) || datagram.Sum(got.text) != 0 {
			t.Errorf("%q: %q, not %q", both, got.text, want)
		}
		if want[10:12] == "\x00\x00" {
			null++
		}
	}
	if null == 0 {
		t.Error("no header has the sum 0")
	}
}
