package section_test

import (
	"math"
	"strings"
	"testing"

	"clarion/api"
	"clarion/section"
)

// The calls as the chapter lists them: with another signature this file does not build.
var (
	_ func(section.Section) api.Errno                            = section.Check
	_ func(section.Section) (string, api.Errno)                  = section.Encode
	_ func(string) (section.Section, api.Errno)                  = section.Decode
	_ func(string) (int, api.Errno)                              = section.Need
	_ func(int, int, int, string) ([]section.Section, api.Errno) = section.Split
	_ func(...section.Section) (string, api.Errno)               = section.Join
)

var _ = struct {
	Table   int
	Private bool
	Ext     int
	Version int
	Now     bool
	Number  int
	Last    int
	Body    string
}(section.Section{})

// The chapter's example, as it stands there.
func TestExamples(t *testing.T) {
	s, e := section.Encode(section.Section{Table: 66, Now: true, Body: "hi"})
	if len(s) != 14 || s[:10] != string([]byte{66, 0xb0, 11, 0, 0, 0xc1, 0, 0, 'h', 'i'}) || e != api.OK {
		t.Errorf("%q, %v", s, e)
	}
}

// P8.1: bytes that were worked out by hand: each field has numbers of its own, and one of each is at its end.
func TestBytesByHand(t *testing.T) {
	for want, s := range map[string]section.Section{
		"\x42\xb0\x0b\x00\x00\xc1\x00\x00hi":            {Table: 66, Now: true, Body: "hi"},
		"\x00\xb0\x09\x00\x00\xc0\x00\x00":              {},
		"\xff\xf0\x09\xff\xff\xff\xff\xff":              {Table: 255, Private: true, Ext: 65535, Version: 31, Now: true, Number: 255, Last: 255},
		"\x42\xf0\x0c\x12\x34\xca\x02\x03abc":           {Table: 66, Private: true, Ext: 0x1234, Version: 5, Number: 2, Last: 3, Body: "abc"},
		"\x01\xb0\x0a\x80\x01\xe1\x07\x70\x00":          {Table: 1, Ext: 0x8001, Version: 16, Now: true, Number: 7, Last: 112, Body: "\x00"},
		"\x02\xb1\x00\x00\xff\xc2\x00\x80" + dots(247):  {Table: 2, Ext: 255, Version: 1, Last: 128, Body: dots(247)},
		"\x03\xbf\xfd\x00\x00\xc0\x00\x00" + dots(4084): {Table: 3, Body: dots(4084)},
	} {
		if got := encoded(s); got != (bytesOf{text: seal(want)}) {
			t.Errorf("%s: %.20q, %v", short(s), got.text, got.e)
		}
		if got := decoded(seal(want)); got != (told{s: s}) {
			t.Errorf("%.20q: %s, %v", want, short(got.s), got.e)
		}
	}
}

func dots(n int) string { return strings.Repeat(".", n) }

// field is a number of a section that is to be set.
type field struct {
	set  func(s *section.Section, n int)
	last int
}

// fields is those whose ends hang on no other one.
func fields() []field {
	return []field{
		{func(s *section.Section, n int) { s.Table = n }, 255},
		{func(s *section.Section, n int) { s.Ext = n }, 65535},
		{func(s *section.Section, n int) { s.Version = n }, 31},
		{func(s *section.Section, n int) { s.Last = n }, 255},
	}
}

// outside is numbers that are not from 0 to last; cut to fewer bits, some would be.
func outside(last int) []int {
	return []int{-1, -2, -last - 1, -last - 2, last + 1, last + 2, 2*last + 2, 1<<16 + last + 1, 1 << 32, 1<<32 + 1, -1 << 32, math.MinInt, math.MinInt + 1, math.MaxInt}
}

// P8.1: each number that may be, in a section of which the others are at one end, and at the other one.
func TestNumbersThatMayBe(t *testing.T) {
	for _, f := range fields() {
		for n := range f.last + 1 {
			if n > 300 && n%97 != 0 && n < f.last-3 {
				continue
			}
			low := section.Section{Body: "body"}
			high := section.Section{Table: 255, Private: true, Ext: 65535, Version: 31, Now: true, Last: 255}
			f.set(&low, n)
			f.set(&high, n)
			checks(t, low, api.OK)
			checks(t, high, api.OK)
		}
	}
}

// P8.1: each number beyond its ends, with a body that may be and with one that may not: ErrRange is named first (R1).
func TestNumbersThatMayNotBe(t *testing.T) {
	for _, f := range fields() {
		for _, n := range outside(f.last) {
			for _, long := range []int{0, 4, 4084, 4085, 70000} {
				s := section.Section{Now: true, Body: dots(long)}
				f.set(&s, n)
				checks(t, s, api.ErrRange)
			}
		}
	}
}

// P8.1: Number ends at Last, wherever that is.
func TestNumberAndLast(t *testing.T) {
	for last := range 256 {
		for n := range 257 {
			want := api.OK
			if n > last {
				want = api.ErrRange
			}
			checks(t, section.Section{Number: n, Last: last}, want)
		}
		for _, n := range outside(last) {
			checks(t, section.Section{Number: n, Last: last}, api.ErrRange)
		}
		checks(t, section.Section{Number: last + 1, Last: last, Body: dots(4085)}, api.ErrRange)
	}
	// With a Last that may not be none may be, though it is no greater.
	for _, last := range outside(255) {
		for _, n := range []int{0, 255, 256, last, last - 1, last + 1} {
			checks(t, section.Section{Number: n, Last: last}, api.ErrRange)
		}
	}
}

// P8.1: bodies of no byte, of as many as there may be, and of more.
func TestBodies(t *testing.T) {
	for _, long := range []int{0, 1, 2, 246, 247, 248, 4083, 4084} {
		checks(t, section.Section{Table: 7, Body: dots(long)}, api.OK)
	}
	for _, long := range []int{4085, 4086, 4087, 4088, 4096, 8180, 65536, 1 << 20} {
		checks(t, section.Section{Table: 7, Body: dots(long)}, api.ErrFull)
	}
	if s, e := section.Encode(section.Section{Body: dots(4084)}); len(s) != 4096 || e != api.OK {
		t.Error("the greatest one:", len(s), e)
	}
}

// P8.1: sections that may be, and any that are drawn near the ends, by the words.
func TestCheckOfAny(t *testing.T) {
	for _, s := range samples() {
		checks(t, s, api.OK)
	}
	s := noise(7)
	good, bad := 0, 0
	for range 3000 {
		one := section.Section{Table: 250 - s.below(251) + s.below(7), Ext: s.below(65538), Version: s.below(33), Last: s.below(257), Body: dots(s.below(3) * 1362)}
		one.Number = s.below(one.Last + 3)
		want := slowCheck(one)
		checks(t, one, want)
		if want == api.OK {
			good++
		} else {
			bad++
		}
	}
	if good < 500 || bad < 50 {
		t.Error("too few of a kind:", good, bad)
	}
}
