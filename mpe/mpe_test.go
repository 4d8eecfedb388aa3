package mpe_test

import (
	"iter"
	"math"
	"testing"

	"clarion/api"
	"clarion/mpe"
)

// The calls as the chapter lists them: with another signature this file does not build.
var (
	_ func(mpe.Part) api.Errno                    = mpe.Check
	_ func(mpe.Part) (string, api.Errno)          = mpe.Encode
	_ func(string) (mpe.Part, api.Errno)          = mpe.Decode
	_ func(string, api.Times) (string, api.Errno) = mpe.With
	_ func(string) bool                           = mpe.Is
	_ func(...string) iter.Seq2[int, mpe.Part]    = mpe.All
	_ [62]int                                     = [mpe.Table]int{}
)

var _ = struct {
	Mac   int
	Times api.Times
	Text  string
}(mpe.Part{})

// The chapter's example, as it stands there.
func TestExamples(t *testing.T) {
	d := gram4(5, "any")
	s, e := mpe.Encode(mpe.Part{Mac: 258, Times: api.Times{Delta: 5, At: 3}, Text: d})
	if want := string([]byte{62, 0xb0, 9 + 4 + 23, 1, 2, 0xc1, 0, 0, 0, 0x50, 0, 3}) + d; e != api.OK || len(s) != len(want)+4 || s[:len(want)] != want {
		t.Errorf("%q, %v", s, e)
	}
}

// P10.1: bytes that were worked out by hand, but for the check sum.
func TestBytesByHand(t *testing.T) {
	least := "\x45\x00\x00\x14\x00\x00\x00\x00\x40\x11\x7a\xda\x00\x00\x00\x00\x00\x00\x00\x00"
	six := "\x60\x00\x00\x00\x00\x01\x3b\x40" + string(make([]byte, 32)) + "z"
	for want, p := range map[string]mpe.Part{
		"\x3e\xb0\x21\x00\x00\xc1\x00\x00\x00\x00\x00\x00" + least: {Text: least},
		"\x3e\xb0\x21\xff\xff\xc1\x00\x00\xff\xff\xff\xff" + least: {Mac: 65535, Times: allSet(), Text: least},
		"\x3e\xb0\x36\x12\x34\xc1\x00\x00\xab\xca\xfe\xdc" + six:   {Mac: 0x1234, Times: api.Times{Delta: 0xabc, Table: true, At: 0x2fedc}, Text: six},
		"\x3e\xb0\x36\x00\xff\xc1\x00\x00\x00\x14\x00\x01" + six:   {Mac: 255, Times: api.Times{Delta: 1, Frame: true, At: 1}, Text: six},
		"\x3e\xb0\x21\x80\x00\xc1\x00\x00\x80\x02\x00\x00" + least: {Mac: 32768, Times: api.Times{Delta: 2048, At: 131072}, Text: least},
	} {
		if got := encoded(p); got != (bytesOf{text: seal(want)}) {
			t.Errorf("%s: %q, %v", short(p), got.text, got.e)
		}
		if got := decoded(seal(want)); got != (told{p: p}) {
			t.Errorf("%q: %s, %v", want, short(got.p), got.e)
		}
	}
}

// outside is numbers that are not from 0 to last, those next to the ends ahead; cut to fewer bits, some would be.
func outside(last int) []int {
	return []int{
		-1, last + 1, -2, last + 2, -last - 1, 2*last + 2, 2*last + 3, 1 << 31, 1 << 32, 1<<32 + 1, 1<<32 + last, -1 << 31, -1 << 32, -1<<32 + last,
		1 << 62, math.MinInt, math.MinInt + 1, math.MinInt + last, math.MaxInt, math.MaxInt - 1,
	}
}

// P10.1: Mac at both ends, and all between.
func TestMacsThatMayBe(t *testing.T) {
	d := gram4(5, "")
	for n := 0; n < 65536; n += 1 + n%3*7 {
		checks(t, mpe.Part{Mac: n, Text: d}, api.OK)
	}
	for _, n := range []int{0, 1, 2, 255, 256, 257, 32767, 32768, 65280, 65534, 65535} {
		checks(t, mpe.Part{Mac: n, Times: allSet(), Text: gram6("body")}, api.OK)
	}
}

// P10.1: Mac one beyond, and further, with what else may be and what may not: ErrRange is named first (R1).
func TestMacsThatMayNotBe(t *testing.T) {
	for _, n := range outside(65535) {
		for _, x := range []api.Times{{}, allSet(), {Delta: 4096}, {At: -1}} {
			for _, d := range []string{gram4(5, "hi"), gram6(""), "", "x", gram4(5, "")[:10]} {
				checks(t, mpe.Part{Mac: n, Times: x, Text: d}, api.ErrRange)
			}
		}
	}
}

// flags is the four times that Table and Frame make of one.
func flags(x api.Times) []api.Times {
	l := []api.Times{x, x, x, x}
	for n := range l {
		l[n].Table, l[n].Frame = n/2 == 1, n%2 == 1
	}
	return l
}

// timesThatMayBe is Delta and At at their ends and between, with each of Table and Frame.
func timesThatMayBe() []api.Times {
	var l []api.Times
	for _, delta := range []int{0, 1, 15, 16, 255, 256, 2048, 4094, 4095} {
		for _, at := range []int{0, 1, 255, 256, 65535, 65536, 131072, 262142, 262143} {
			l = append(l, flags(api.Times{Delta: delta, At: at})...)
		}
	}
	return l
}

// timesThatMayNotBe is those of which Delta, At, or both are beyond.
func timesThatMayNotBe() []api.Times {
	var l []api.Times
	for _, n := range outside(4095) {
		for _, at := range []int{0, 262143, 262144, -1} {
			l = append(l, flags(api.Times{Delta: n, At: at})...)
		}
	}
	for _, n := range outside(262143) {
		for _, delta := range []int{0, 4095, 4096, -1} {
			l = append(l, flags(api.Times{Delta: delta, At: n})...)
		}
	}
	return l
}

// P10.1: Times that may be.
func TestTimesThatMayBe(t *testing.T) {
	for _, x := range timesThatMayBe() {
		checks(t, mpe.Part{Mac: 7, Times: x, Text: gram4(5, "hi")}, api.OK)
		checks(t, mpe.Part{Mac: 65535, Times: x, Text: gram6("")}, api.OK)
	}
}

// P10.1: Times that may not be, with datagrams and with none: ErrRange is named first (R1).
func TestTimesThatMayNotBe(t *testing.T) {
	for _, x := range timesThatMayNotBe() {
		for _, d := range []string{gram4(5, "hi"), gram6(""), "", "x", gram6("")[:39]} {
			checks(t, mpe.Part{Mac: 7, Times: x, Text: d}, api.ErrRange)
		}
	}
}

// P10.1: datagrams of version 4 and 6, the shortest and the longest ones among them.
func TestDatagrams(t *testing.T) {
	for _, d := range grams() {
		checks(t, mpe.Part{Mac: 1, Times: api.Times{Delta: 2, At: 3}, Text: d}, api.OK)
	}
	for d, want := range map[string]int{gram4(5, ""): 36, gram6(""): 56, gram4(5, string(make([]byte, 4060))): 4096, gram6(string(make([]byte, 4040))): 4096} {
		if s, e := mpe.Encode(mpe.Part{Text: d}); len(s) != want || e != api.OK {
			t.Errorf("%d bytes: %d, %v, not %d", len(d), len(s), e, want)
		}
	}
}

// P10.1: texts that are none, of no bytes among them, and one byte more than the longest one.
func TestNoDatagrams(t *testing.T) {
	for d, e := range noGrams() {
		checks(t, mpe.Part{Mac: 1, Times: api.Times{Delta: 2, At: 3}, Text: d}, e)
		checks(t, mpe.Part{Mac: -1, Text: d}, api.ErrRange)
		checks(t, mpe.Part{Mac: 65535, Times: allSet(), Text: d}, e)
	}
	for _, d := range []string{gram4(5, string(make([]byte, 4061))), gram6(string(make([]byte, 4041))), gram6(string(make([]byte, 60000)))} {
		checks(t, mpe.Part{Text: d}, api.ErrRange)
	}
	checks(t, mpe.Part{Text: gram4(5, string(make([]byte, 4060))) + "x"}, api.ErrLong)
	checks(t, mpe.Part{}, api.ErrShort)
}

// P10.1: any parts, near the ends, with datagrams of which a byte is any, by the words.
func TestCheckOfAny(t *testing.T) {
	s := noise(3)
	seen := map[api.Errno]int{}
	for range 20000 {
		p := s.part()
		if s.below(2) == 0 {
			p.Text = put(p.Text, s.below(min(len(p.Text), 24)), s.below(256))
		}
		switch s.below(8) {
		case 0, 1:
			p.Text = p.Text[:s.below(len(p.Text))]
		case 2:
			p.Text += s.text(1 + s.below(3))
		case 3:
			p.Text = put(p.Text, s.below(4), s.below(96))
		}
		if s.below(8) == 0 {
			p.Mac += (s.below(3) - 1) * 65536
		}
		e := slowCheck(p)
		checks(t, p, e)
		seen[e]++
	}
	for _, e := range []api.Errno{api.OK, api.ErrRange, api.ErrShort, api.ErrLong, api.ErrKind, api.ErrForm, api.ErrSum} {
		if seen[e] < 100 {
			t.Error("too few of a kind:", e, seen[e])
		}
	}
}

// P10.1: Is of no bytes, of one byte, of each table, whatever is behind it.
func TestIs(t *testing.T) {
	if mpe.Is("") {
		t.Error("of no bytes")
	}
	whole := slowBytes(mpe.Part{Mac: 0x3e3e, Text: gram4(5, "")})
	for n := range 256 {
		for _, s := range []string{one(n), one(n) + "\x00", one(n) + "\x3e", one(n) + "\x3e\x3e\x3e", put(whole, 0, n), again(put(whole, 0, n))} {
			if got := mpe.Is(s); got != (n == 62) {
				t.Errorf("%d, %d bytes: %v", n, len(s), got)
			}
		}
	}
}
