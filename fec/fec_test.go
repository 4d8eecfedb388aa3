package fec_test

import (
	"math"
	"testing"

	"clarion/api"
	"clarion/fec"
)

// The calls as the chapter lists them: with another signature this file does not build.
var (
	_ func(fec.Part) api.Errno                     = fec.Check
	_ func(fec.Part) (string, api.Errno)           = fec.Encode
	_ func(string) (fec.Part, api.Errno)           = fec.Decode
	_ func(string, api.Times) (string, api.Errno)  = fec.With
	_ func(string) bool                            = fec.Is
	_ func(fec.Part) int                           = fec.Cut
	_ func(int, ...string) ([]fec.Part, api.Errno) = fec.Columns
	_ [120]int                                     = [fec.Table]int{}
	_                                              = struct {
		Padding int
		Number  int
		Last    int
		Times   api.Times
		Text    string
	}(fec.Part{})
)

// The chapter's example, as it stands there.
func TestExamples(t *testing.T) {
	text := noise(1)
	column := text.text(256)
	s, e := fec.Encode(fec.Part{Padding: 2, Number: 1, Last: 3, Text: column})
	if want := string([]byte{120, 0xf1, 13, 2, 255, 0xff, 1, 3, 0, 0, 0, 0}) + column; e != api.OK || len(s) != len(want)+4 || s[:len(want)] != want {
		t.Errorf("%.20q, %v", s, e)
	}
}

// P11.1: bytes that were worked out by hand, but for the check sum.
func TestBytesByHand(t *testing.T) {
	least, most := filled('a', 256), filled('z', 1024)
	for want, p := range map[string]fec.Part{
		"\x78\xf1\x0d\x00\xff\xff\x00\x00\x00\x00\x00\x00" + least:              {Text: least},
		"\x78\xf1\x0d\x00\xff\xff\x00\x3f\x00\x00\x00\x00" + least:              {Last: 63, Text: least},
		"\x78\xf1\x0d\x01\xff\xff\x0a\x0b\x00\x58\x00\x03" + least:              {Padding: 1, Number: 10, Last: 11, Times: api.Times{Delta: 5, Table: true, At: 3}, Text: least},
		"\x78\xf4\x0d\xbf\xff\xff\x3f\x3f\xff\xff\xff\xff" + most:               {Padding: 191, Number: 63, Last: 63, Times: allSet(), Text: most},
		"\x78\xf4\x0d\x80\xff\xff\x3e\x3f\x00\x14\x00\x01" + most:               {Padding: 128, Number: 62, Last: 63, Times: api.Times{Delta: 1, Frame: true, At: 1}, Text: most},
		"\x78\xf2\x0d\x7f\xff\xff\x20\x21\xab\xca\xfe\xdc" + most[:512]:         {Padding: 127, Number: 32, Last: 33, Times: api.Times{Delta: 0xabc, Table: true, At: 0x2fedc}, Text: most[:512]},
		"\x78\xf3\x0d\x02\xff\xff\x00\x01\x80\x02\x00\x00" + least + most[:512]: {Padding: 2, Last: 1, Times: api.Times{Delta: 2048, At: 131072}, Text: least + most[:512]},
	} {
		if got := encoded(p); got != (bytesOf{text: seal(want)}) {
			t.Errorf("%s: %.20q, %v", short(p), got.text, got.e)
		}
		tells(t, "by hand", seal(want), told{p: p})
	}
}

// outside is numbers that are not from 0 to last, those next to the ends ahead; cut to fewer bits, some would be.
func outside(last int) []int {
	return []int{
		-1, last + 1, -2, last + 2, -last - 1, 2*last + 2, 2*last + 3, 255, -255, 256, -256, 257, 1 << 16, 1 << 31, 1 << 32, 1<<32 + 1, 1<<32 + last, -1 << 31, -1 << 32, -1<<32 + last,
		1 << 62, math.MinInt, math.MinInt + 1, math.MinInt + last, math.MaxInt, math.MaxInt - 1,
	}
}

// anyTexts is columns that may be and that may not, for what is named ahead of them.
func anyTexts() []string {
	return []string{filled('x', 256), filled('x', 1024), "", "x", filled('x', 255), filled('x', 1025), filled('x', 5000)}
}

// P11.1: Padding at both ends, and all between.
func TestPaddingsThatMayBe(t *testing.T) {
	for n := range 192 {
		checks(t, fec.Part{Padding: n, Text: filled(n, 256)}, api.OK)
		checks(t, fec.Part{Padding: n, Number: 1, Last: 63, Times: allSet(), Text: filled(n, 512)}, api.OK)
	}
}

// P11.1: Padding one beyond, and further, with what else may be and what may not: ErrRange is named first (R1).
func TestPaddingsThatMayNotBe(t *testing.T) {
	for _, n := range outside(191) {
		for _, x := range []api.Times{{}, allSet(), {Delta: 4096}, {At: -1}} {
			for _, text := range anyTexts() {
				checks(t, fec.Part{Padding: n, Times: x, Text: text}, api.ErrRange)
				checks(t, fec.Part{Padding: n, Number: 64, Last: 64, Times: x, Text: text}, api.ErrRange)
			}
		}
	}
	for n := 192; n < 256; n++ {
		checks(t, fec.Part{Padding: n, Text: filled(n, 256)}, api.ErrRange)
	}
}

// P11.1: each Last, with each Number up to it, and each beyond.
func TestNumbersAndLasts(t *testing.T) {
	text := filled(7, 256)
	for last := range 64 {
		for n := range last + 1 {
			checks(t, fec.Part{Number: n, Last: last, Text: text}, api.OK)
		}
		for n := last + 1; n < 70; n++ {
			checks(t, fec.Part{Number: n, Last: last, Text: text}, api.ErrRange)
		}
		for _, n := range outside(max(last, 127)) {
			checks(t, fec.Part{Number: n, Last: last, Text: text}, api.ErrRange)
		}
		checks(t, fec.Part{Padding: 191, Number: last, Last: last, Times: allSet(), Text: filled(9, 1024)}, api.OK)
		checks(t, fec.Part{Number: -1, Last: last, Text: text}, api.ErrRange)
	}
}

// P11.1: Last one beyond, and further, with any Number, and any Text: ErrRange is named first (R1).
func TestLastsThatMayNotBe(t *testing.T) {
	for _, last := range outside(63) {
		for _, n := range []int{0, 1, 62, 63, 64, -1, last, last - 1, last + 1, math.MinInt, math.MaxInt} {
			for _, text := range anyTexts() {
				checks(t, fec.Part{Number: n, Last: last, Text: text}, api.ErrRange)
			}
		}
	}
	for last := 64; last < 256; last++ {
		checks(t, fec.Part{Number: 63, Last: last, Text: filled(1, 256)}, api.ErrRange)
	}
}

// P11.1: a Number that may not be, beside any Text: ErrRange is named first (R1).
func TestNumbersThatMayNotBe(t *testing.T) {
	for _, last := range []int{0, 1, 62, 63} {
		for _, n := range append(outside(127), -1, last+1, last+2, 64) {
			for _, text := range anyTexts() {
				checks(t, fec.Part{Number: n, Last: last, Text: text}, api.ErrRange)
			}
		}
	}
}

// flags is the four times that Table and Frame make of one.
func flags(x api.Times) []api.Times {
	l := []api.Times{x, x, x, x}
	for n := range l {
		l[n].Table, l[n].Frame = n/2 == 1, n%2 == 1
	}
	return l
}

// timesThatMayBe is Delta and At at their ends and between, with each of Table and Frame.
func timesThatMayBe() []api.Times {
	var l []api.Times
	for _, delta := range []int{0, 1, 255, 2048, 4094, 4095} {
		for _, at := range []int{0, 1, 256, 65535, 131072, 262142, 262143} {
			l = append(l, flags(api.Times{Delta: delta, At: at})...)
		}
	}
	return l
}

// timesThatMayNotBe is those of which Delta, At, or both are beyond.
func timesThatMayNotBe() []api.Times {
	var l []api.Times
	for _, n := range outside(4095) {
		if n < 0 || n > 4095 {
			l = append(l, api.Times{Delta: n}, api.Times{Delta: n, Table: true, At: 262143}, api.Times{Delta: n, Frame: true, At: 262144})
		}
	}
	for _, n := range outside(262143) {
		if n < 0 || n > 262143 {
			l = append(l, api.Times{At: n}, api.Times{Delta: 4095, Table: true, At: n}, api.Times{Delta: 4096, Frame: true, At: n})
		}
	}
	return l
}

// P11.1: Times that may be.
func TestTimesThatMayBe(t *testing.T) {
	for _, x := range timesThatMayBe() {
		checks(t, fec.Part{Padding: 7, Last: 1, Times: x, Text: filled(3, 256)}, api.OK)
		checks(t, fec.Part{Padding: 191, Number: 63, Last: 63, Times: x, Text: filled(4, 768)}, api.OK)
	}
}

// P11.1: Times that may not be, with any Text: ErrRange is named first (R1).
func TestTimesThatMayNotBe(t *testing.T) {
	for _, x := range timesThatMayNotBe() {
		for _, text := range anyTexts() {
			checks(t, fec.Part{Padding: 7, Number: 1, Last: 1, Times: x, Text: text}, api.ErrRange)
		}
	}
}

// P11.1: a Text of each length up to somewhat more than the longest one, and of some beyond.
func TestTexts(t *testing.T) {
	for long := range 1400 {
		e := api.ErrForm
		switch long {
		case 256, 512, 768, 1024:
			e = api.OK
		}
		checks(t, fec.Part{Text: filled(long%256, long)}, e)
		checks(t, fec.Part{Padding: 191, Number: 63, Last: 63, Times: allSet(), Text: filled(0, long)}, e)
	}
	for _, long := range wrongLongs() {
		checks(t, fec.Part{Padding: 3, Number: 2, Last: 7, Text: filled(1, long)}, api.ErrForm)
	}
	checks(t, fec.Part{}, api.ErrForm)
}

// P11.1: as many bytes as the words ask for: 16 beside the column.
func TestLengths(t *testing.T) {
	for _, long := range longs() {
		if s, e := fec.Encode(fec.Part{Text: filled(1, long)}); len(s) != long+16 || e != api.OK {
			t.Errorf("%d bytes: %d, %v", long, len(s), e)
		}
	}
}

// P11.1: any parts, near the ends, by the words.
func TestCheckOfAny(t *testing.T) {
	s := noise(3)
	seen := map[api.Errno]int{}
	for range 5000 {
		p := s.part()
		switch s.below(8) {
		case 0:
			p.Text = p.Text[:s.below(len(p.Text))]
		case 1:
			p.Text += s.text(1 + s.below(3))
		case 2:
			p.Padding += (s.below(3) - 1) * 192
		case 3:
			p.Last += (s.below(3) - 1) * 64
		case 4:
			p.Number += (s.below(3) - 1) * (p.Last + 1)
		}
		e := slowCheck(p)
		checks(t, p, e)
		seen[e]++
	}
	for _, e := range []api.Errno{api.OK, api.ErrRange, api.ErrForm} {
		if seen[e] < 500 {
			t.Error("too few of a kind:", e, seen[e])
		}
	}
}

// P11.1: Is of no bytes, of one byte, of each table, whatever is behind it.
func TestIs(t *testing.T) {
	if fec.Is("") {
		t.Error("of no bytes")
	}
	whole := slowBytes(fec.Part{Padding: 0x78, Text: filled(0x78, 256)})
	for n := range 256 {
		for _, s := range []string{one(n), one(n) + "\x00", one(n) + "\x78", one(n) + "\x78\x78\x78", put(whole, 0, n), again(put(whole, 0, n))} {
			if got := fec.Is(s); got != (n == 120) {
				t.Errorf("%d, %d bytes: %v", n, len(s), got)
			}
		}
	}
}

// P11.1: Cut at both ends, and all between, whatever else the part has.
func TestCut(t *testing.T) {
	for sent := 1; sent <= 64; sent++ {
		for _, p := range []fec.Part{{}, {Padding: 191, Number: sent - 1, Times: allSet(), Text: filled(0, 256)}, {Padding: -1, Number: 99, Text: "x"}} {
			p.Last = sent - 1
			if got := fec.Cut(p); got+sent != 64 {
				t.Errorf("%s: %d", short(p), got)
			}
		}
	}
	if all, none := fec.Cut(fec.Part{Last: 63}), fec.Cut(fec.Part{}); all != 0 || none != 63 {
		t.Error(all, none)
	}
}

// P11.1: Cut has no error: of what is no Last, too, it is 63 less Last, and it ends.
func TestCutOfWhatMayNotBe(t *testing.T) {
	for last, want := range map[int]int{64: -1, 65: -2, -1: 64, 255: -192, math.MaxInt: 63 - math.MaxInt} {
		if got := fec.Cut(fec.Part{Last: last}); got != want {
			t.Errorf("%d: %d, not %d", last, got, want)
		}
	}
	fec.Cut(fec.Part{Last: math.MinInt})
}
