package datagram_test

import (
	"strings"
	"testing"

	"clarion/api"
	"clarion/datagram"
)

// P7.1: no byte; with an error the head is its zero value (R1).
func TestPeekOfNoByte(t *testing.T) {
	if got := peeked(""); got != (told{e: api.ErrShort}) {
		t.Errorf("%+v", got)
	}
	if e := datagram.Check(""); e != api.ErrShort {
		t.Error(e)
	}
}

// P7.1: one byte, of each version.
func TestPeekOfOneByte(t *testing.T) {
	for n := range 256 {
		want := api.ErrKind
		if n/16 == 4 || n/16 == 6 {
			want = api.ErrShort
		}
		if got := peeked(one(n)); got != (told{e: want}) {
			t.Errorf("%#x: %+v", n, got)
		}
		if e := datagram.Check(one(n)); e != want {
			t.Errorf("%#x: Check: %v", n, e)
		}
	}
}

// P7.1: other versions are none, however many bytes there are.
func TestPeekOfOtherVersions(t *testing.T) {
	for _, s := range []string{good4(5, 17, ""), good4(15, 17, "body"), good6(17, ""), good6(17, "body")} {
		for version := range 16 {
			if version == 4 || version == 6 {
				continue
			}
			for long := 1; long <= len(s); long++ {
				text := put(s, 0, 16*version+int(s[0])%16)[:long]
				if got := peeked(text); got != (told{e: api.ErrKind}) {
					t.Fatalf("version %d of %d bytes: %+v", version, long, got)
				}
			}
		}
	}
}

// P7.1: 19 and 20 bytes of version 4, 39 and 40 of version 6: no more are needed, even of a longer header.
func TestPeekOfFewBytes(t *testing.T) {
	for _, c := range []struct {
		s     string
		least int
		head  datagram.Head
	}{
		{good4(5, 17, "body"), 20, datagram.Head{Version: 4, Header: 20, Length: 24, Proto: 17}},
		{good4(15, 6, "body"), 20, datagram.Head{Version: 4, Header: 60, Length: 64, Proto: 6}},
		{good6(58, "body"), 40, datagram.Head{Version: 6, Header: 40, Length: 44, Proto: 58}},
	} {
		for long := 1; long <= len(c.s); long++ {
			want := told{head: c.head}
			if long < c.least {
				want = told{e: api.ErrShort}
			}
			if got := peeked(c.s[:long]); got != want {
				t.Errorf("%d bytes: %+v, not %+v", long, got, want)
			}
		}
		if got := peeked(c.s + strings.Repeat("behind", 1000)); got != (told{head: c.head}) {
			t.Errorf("with bytes behind it: %+v", got)
		}
	}
}

// P7.1: headers of version 4 of 0 to 60 bytes, 16, 20 and 60 among them.
func TestPeekOfHeaders(t *testing.T) {
	for words := range 16 {
		for _, length := range []int{60, 61, 4080} {
			s := put(head4(5, length, 1), 0, 64+words)
			want := told{head: datagram.Head{Version: 4, Header: 4 * words, Length: length, Proto: 1}}
			if words < 5 {
				want = told{e: api.ErrForm}
			}
			if got := peeked(s); got != want {
				t.Errorf("%d bytes of %d: %+v, not %+v", 4*words, length, got, want)
			}
		}
	}
	for low := range 16 { // of version 6 the low half tells nothing of the header
		if got := peeked(put(good6(1, ""), 0, 96+low)); got != (told{head: datagram.Head{Version: 6, Header: 40, Length: 40, Proto: 1}}) {
			t.Errorf("%d: %+v", low, got)
		}
	}
}

// P7.1: lengths of version 4: less than the header, just it, 4080 and 4081.
func TestPeekOfLengths4(t *testing.T) {
	for words := 5; words < 16; words++ {
		for length, want := range map[int]api.Errno{
			0: api.ErrForm, 1: api.ErrForm, 4*words - 1: api.ErrForm, 4 * words: api.OK, 4*words + 1: api.OK,
			256: api.OK, 4079: api.OK, 4080: api.OK, 4081: api.ErrRange, 4096: api.ErrRange, 32768: api.ErrRange, 65535: api.ErrRange,
		} {
			full := told{e: want}
			if want == api.OK {
				full.head = datagram.Head{Version: 4, Header: 4 * words, Length: length, Proto: 17}
			}
			if got := peeked(head4(words, length, 17)); got != full {
				t.Errorf("%d of a header of %d: %+v, not %+v", length, 4*words, got, full)
			}
		}
	}
}

// P7.1: lengths of version 6, which is never less than the header: just it, 4080 and 4081.
func TestPeekOfLengths6(t *testing.T) {
	for beyond, want := range map[int]api.Errno{
		0: api.OK, 1: api.OK, 255: api.OK, 256: api.OK, 4039: api.OK, 4040: api.OK,
		4041: api.ErrRange, 4080: api.ErrRange, 4096: api.ErrRange, 65495: api.ErrRange, 65496: api.ErrRange, 65535: api.ErrRange,
	} {
		full := told{e: want}
		if want == api.OK {
			full.head = datagram.Head{Version: 6, Header: 40, Length: 40 + beyond, Proto: 17}
		}
		if got := peeked(head6(beyond, 17)); got != full {
			t.Errorf("%d: %+v, not %+v", beyond, got, full)
		}
	}
}

// P7.1: all lengths, and all protocols.
func TestPeekOfAllNumbers(t *testing.T) {
	four, fourLong, six := head4(5, 0, 0), head4(15, 0, 0), head6(0, 0)
	for n := range 1 << 16 {
		for _, s := range []string{four[:2] + two(n) + four[4:], fourLong[:2] + two(n) + fourLong[4:], six[:4] + two(n) + six[6:]} {
			if got, want := peeked(s), slowPeek(s); got != want {
				t.Fatalf("%d in %q: %+v, not %+v", n, s, got, want)
			}
		}
	}
	for n := range 256 {
		if got := peeked(head4(5, 20, n)).head.Proto; got != n {
			t.Errorf("version 4: %d, not %d", got, n)
		}
		if got := peeked(head6(0, n)).head.Proto; got != n {
			t.Errorf("version 6: %d, not %d", got, n)
		}
	}
}

// P7.1: any bytes; in what Peek asks nothing else counts.
func TestPeekOfAnyBytes(t *testing.T) {
	s := noise(7)
	good := 0
	for range 40000 {
		text := s.text(s.below(70))
		if text != "" && s.below(8) > 0 {
			text = put(text, 0, []int{0x44, 0x45, 0x46, 0x4f, 0x60, 0x6f}[s.below(6)])
		}
		if len(text) > 4 && s.below(4) > 0 { // the length's high byte, or high ones
			text = put(put(text, 2, s.below(17)), 4, s.below(17))
		}
		got, want := peeked(text), slowPeek(text)
		if got != want {
			t.Fatalf("%q: %+v, not %+v", text, got, want)
		}
		if e, want := datagram.Check(text), slowCheck(text); e != want {
			t.Fatalf("%q: Check: %v, not %v", text, e, want)
		}
		if want.e == api.OK {
			good++
		}
	}
	if good < 5000 {
		t.Error("too few are told:", good)
	}
}

// P7.1, R1: what is wrong first is what is answered.
func TestWrongFirst(t *testing.T) {
	short := good4(5, 17, "body")
	turned := put(short, 10, int(short[10])^1)
	for i, c := range []struct {
		s           string
		peek, check api.Errno
	}{
		{"\x54", api.ErrKind, api.ErrKind},                                          // no version, too few bytes
		{put(head4(5, 9000, 0), 0, 0x54), api.ErrKind, api.ErrKind},                 // no version, and a header of 16 bytes, and too great a length
		{put(head4(5, 16, 0), 0, 0x44)[:19], api.ErrShort, api.ErrShort},            // too few bytes, a header of 16
		{head4(5, 4081, 0)[:19], api.ErrShort, api.ErrShort},                        // too few bytes, too great a length
		{head6(4041, 0)[:39], api.ErrShort, api.ErrShort},                           // likewise
		{put(head4(5, 4081, 0), 0, 0x44), api.ErrForm, api.ErrForm},                 // a header of 16 bytes, too great a length
		{put(head4(5, 16, 0), 0, 0x44), api.ErrForm, api.ErrForm},                   // a header of 16 bytes, too many bytes, and another sum
		{head4(5, 19, 0), api.ErrForm, api.ErrForm},                                 // a length less than the header, too many bytes
		{head4(15, 59, 0)[:20], api.ErrForm, api.ErrForm},                           // a length less than the header, too few bytes
		{head4(5, 4081, 0), api.ErrRange, api.ErrRange},                             // too great a length, too few bytes
		{head4(5, 4081, 0) + strings.Repeat("x", 5000), api.ErrRange, api.ErrRange}, // too great a length, too many bytes
		{good4(5, 0, strings.Repeat("x", 4061)), api.ErrRange, api.ErrRange},        // too great a length, just so many bytes
		{good6(0, strings.Repeat("x", 4041)), api.ErrRange, api.ErrRange},           // likewise
		{turned[:23], api.OK, api.ErrShort},                                         // too few bytes, another sum
		{turned + "x", api.OK, api.ErrLong},                                         // too many bytes, another sum
		{head4(15, 60, 0)[:59], api.OK, api.ErrShort},                               // too few bytes, in the header
		{turned, api.OK, api.ErrSum},                                                // another sum alone
	} {
		if got := peeked(c.s); got.e != c.peek || c.peek != api.OK && got != (told{e: c.peek}) {
			t.Errorf("%d: Peek: %+v, not %v", i, got, c.peek)
		}
		if e := datagram.Check(c.s); e != c.check {
			t.Errorf("%d: Check: %v, not %v", i, e, c.check)
		}
	}
}

// P7.1: as many bytes as the length, one less, one more, and each other number.
func TestCheckOfLengths(t *testing.T) {
	for _, s := range samples() {
		least := slowPeek(s).head.Header
		for long := len(s) + 3; long >= max(least, len(s)-70); long-- {
			want := api.OK
			if long < len(s) {
				want = api.ErrShort
			} else if long > len(s) {
				want = api.ErrLong
			}
			if e := datagram.Check((s + "xyz")[:long]); e != want {
				t.Fatalf("%d bytes of %d: %v, not %v", long, len(s), e, want)
			}
		}
	}
}

// P7.1: a header of version 4 of which one byte is turned: each place, each byte.
func TestCheckOfTurnedHeaders(t *testing.T) {
	for _, s := range []string{good4(5, 17, ""), good4(5, 17, strings.Repeat("body", 20)), good4(6, 17, "x"), good4(15, 17, "odd")} {
		sums := 0
		for at := range slowPeek(s).head.Header {
			for n := range 256 {
				if n == int(s[at]) {
					continue
				}
				text := put(s, at, n)
				e := datagram.Check(text)
				if e != slowCheck(text) {
					t.Fatalf("%q: byte %d is %d: %v, not %v", s, at, n, e, slowCheck(text))
				}
				if at > 3 && e != api.ErrSum { // the first bytes tell version, header and length
					t.Fatalf("%q: byte %d is %d: %v", s, at, n, e)
				}
				if e == api.ErrSum {
					sums++
				}
			}
		}
		if sums < 255*17 {
			t.Error("too few of another sum:", sums)
		}
	}
}

// P7.1: a body has no part in the sum, and version 6 has none.
func TestCheckOfTurnedBodies(t *testing.T) {
	for _, s := range []string{good4(5, 17, "body"), good4(15, 17, "a body"), good6(17, "body")} {
		h := slowPeek(s).head
		for at := h.Header; at < len(s); at++ {
			if e := datagram.Check(put(s, at, int(s[at])^0xff)); e != api.OK {
				t.Errorf("%q: byte %d: %v", s, at, e)
			}
		}
	}
	s := good6(17, "body")
	for at := 6; at < len(s); at++ {
		for n := range 256 {
			if e := datagram.Check(put(s, at, n)); e != api.OK {
				t.Fatalf("byte %d is %d: %v", at, n, e)
			}
		}
	}
}

// P7.1: a header whose sum's own bytes are 0, and one whose are both 255, are told by the sum of all, as others are.
func TestCheckOfSumsAtTheEnds(t *testing.T) {
	body := "\x45\x00\x00\x14\x00\x00\x00\x00\x40\x11\x00\x00"
	rest := slowSum(body) // what must be added for all bits
	null := body + two(rest) + "\x00\x00\x00\x00\x00\x00"
	if e := datagram.Check(null); e != api.OK || datagram.Sum(null) != 0 {
		t.Error("0:", e)
	}
	if e := datagram.Check(null[:10] + "\xff\xff" + null[12:]); e != api.OK {
		t.Error("65535, which is 0 too where sums go round:", e)
	}
	if e := datagram.Check(null[:10] + "\x00\x01" + null[12:]); e != api.ErrSum {
		t.Error("1:", e)
	}
}
