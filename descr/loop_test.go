package descr_test

import (
	"math"
	"slices"
	"strconv"
	"strings"
	"testing"

	"clarion/api"
	"clarion/descr"
)

// The calls are as the chapter writes them.
var (
	_ func(...descr.Descriptor) (string, api.Errno)               = descr.Loop
	_ func(string) ([]descr.Descriptor, api.Errno)                = descr.Parse
	_ func([]descr.Descriptor, int) (descr.Descriptor, api.Errno) = descr.Find
	_ func(descr.Slice) (descr.Descriptor, api.Errno)             = descr.Slice.Make
	_ func(descr.Descriptor) (descr.Slice, api.Errno)             = descr.ReadSlice
	_ func(descr.Place) (descr.Descriptor, api.Errno)             = descr.Place.Make
	_ func(descr.Descriptor) (descr.Place, api.Errno)             = descr.ReadPlace
	_ func(...descr.Target) (descr.Descriptor, api.Errno)         = descr.Targets
	_ func(descr.Descriptor) ([]descr.Target, api.Errno)          = descr.ReadTargets
	_ func(descr.Int) (string, api.Errno)                         = descr.Int.Body
	_ func(descr.Int) int                                         = descr.Int.Ext
	_ func(int, string) (descr.Int, api.Errno)                    = descr.ReadInt
	_ [119]int                                                    = [descr.TagSlice]int{}
	_ [19]int                                                     = [descr.TagPlace]int{}
	_ [15]int                                                     = [descr.TagTarget]int{}
)

// d is a descriptor.
func d(tag int, body string) descr.Descriptor { return descr.Descriptor{Tag: tag, Body: body} }

// filled is descriptors of 255 bytes and one more behind, so many bytes in all.
func filled(long int) []descr.Descriptor {
	var l []descr.Descriptor
	for long > 257 {
		// None of what is left has too few bytes for a descriptor.
		size := min(255, long-4)
		l = append(l, d(len(l), strings.Repeat(one(len(l)), size)))
		long -= size + 2
	}
	return append(l, d(99, strings.Repeat("z", long-2)))
}

// The chapter's examples, by hand: a Slice's descriptor, and the loop of it.
func TestExamples(t *testing.T) {
	x := descr.Slice{Slicing: true, Fec: true, Rows: 512, Burst: 9, Rate: 2, ID: 1}
	made, e := x.Make()
	if e != api.OK || made != d(119, "\xb9\x09\x21") {
		t.Errorf("%v, %v", made, e)
	}
	s, e := descr.Loop(made)
	if e != api.OK || s != "\x77\x03\xb9\x09\x21" {
		t.Errorf("%q, %v", s, e)
	}
	l, e := descr.Parse(s)
	if e != api.OK || !slices.Equal(l, []descr.Descriptor{made}) {
		t.Errorf("%v, %v", l, e)
	}
	if y, e := descr.ReadSlice(l[0]); e != api.OK || y != x {
		t.Errorf("%v, %v", y, e)
	}
}

// P18.1: loops by hand: none, one without a body, several.
func TestLoop(t *testing.T) {
	for _, c := range []struct {
		l    []descr.Descriptor
		want string
	}{
		{nil, ""},
		{[]descr.Descriptor{}, ""},
		{[]descr.Descriptor{d(0, "")}, "\x00\x00"},
		{[]descr.Descriptor{d(255, "\x00")}, "\xff\x01\x00"},
		{[]descr.Descriptor{d(119, "abc"), d(0, ""), d(255, "z")}, "\x77\x03abc\x00\x00\xff\x01z"},
		{[]descr.Descriptor{d(5, "ab"), d(5, "ab"), d(4, "")}, "\x05\x02ab\x05\x02ab\x04\x00"},
		{[]descr.Descriptor{d(128, "\xff\xc3\xa9")}, "\x80\x03\xff\xc3\xa9"},
	} {
		makesLoop(t, "by hand", c.l, api.OK)
		if s, e := descr.Loop(c.l...); s != c.want || e != api.OK {
			t.Errorf("%v: %q, %v, not %q", c.l, s, e, c.want)
		}
		parses(t, "by hand", c.want, c.l, api.OK)
	}
}

// P18.1: a Tag of -1, 0, 255 and 256, and others; a Body of each length.
func TestLoopOfTagsAndBodies(t *testing.T) {
	for tag := range 256 {
		makesLoop(t, "Tag", []descr.Descriptor{d(tag, "ab")}, api.OK)
		parses(t, "Tag", one(tag)+"\x02ab", []descr.Descriptor{d(tag, "ab")}, api.OK)
	}
	for _, tag := range outside(255) {
		makesLoop(t, "Tag "+strconv.Itoa(tag), []descr.Descriptor{d(tag, "ab")}, api.ErrRange)
		makesLoop(t, "the last Tag", []descr.Descriptor{d(0, ""), d(255, "ab"), d(tag, "")}, api.ErrRange)
	}
	for long := range 256 {
		makesLoop(t, "Body", []descr.Descriptor{d(7, dots(long))}, api.OK)
		parses(t, "Body", "\x07"+one(long)+dots(long), []descr.Descriptor{d(7, dots(long))}, api.OK)
	}
	for _, long := range []int{256, 257, 258, 300, 511, 512, 513, 4093, 4095, 4096, 65536, 65537, 1 << 20} {
		makesLoop(t, "Body of "+strconv.Itoa(long), []descr.Descriptor{d(7, dots(long))}, api.ErrLong)
		makesLoop(t, "the last Body", []descr.Descriptor{d(0, ""), d(255, dots(255)), d(7, dots(long))}, api.ErrLong)
	}
}

// P18.1: loops of each number of bytes about the most that there may be: texts and lists.
func TestLoopOf4095Bytes(t *testing.T) {
	for long := 3800; long < 4096; long++ {
		l := filled(long)
		makesLoop(t, strconv.Itoa(long), l, api.OK)
		s, _ := descr.Loop(l...)
		if len(s) != long {
			t.Fatalf("%d bytes, not %d", len(s), long)
		}
		parses(t, strconv.Itoa(long), s, l, api.OK)
	}
	for long := 4096; long < 5200; long++ {
		makesLoop(t, strconv.Itoa(long), filled(long), api.ErrLong)
		s := ""
		for _, d := range filled(long) {
			s += one(d.Tag) + one(len(d.Body)) + d.Body
		}
		parses(t, strconv.Itoa(long), s, nil, api.ErrLong)
	}
	empty := make([]descr.Descriptor, 100000)
	makesLoop(t, "2047 empty ones", empty[:2047], api.OK)
	for _, many := range []int{2048, 2049, 4095, 4096, 32768, 65535} {
		makesLoop(t, "empty ones", empty[:many], api.ErrLong)
	}
	if s, e := descr.Loop(empty...); s != "" || e != api.ErrLong {
		t.Errorf("%d bytes, %v", len(s), e)
	}
}

// P18.1: of several that may not be, the first one's error is told, its Tag's first; and one that may not be, wherever it is, ahead of there being too many bytes.
func TestLoopTellsTheFirstError(t *testing.T) {
	good, tag, body, both := d(1, "x"), d(256, "x"), d(1, dots(256)), d(-1, dots(256))
	for _, c := range []struct {
		l []descr.Descriptor
		e api.Errno
	}{
		{[]descr.Descriptor{both}, api.ErrRange},
		{[]descr.Descriptor{tag, body}, api.ErrRange},
		{[]descr.Descriptor{body, tag}, api.ErrLong},
		{[]descr.Descriptor{body, both}, api.ErrLong},
		{[]descr.Descriptor{both, body}, api.ErrRange},
		{[]descr.Descriptor{good, body, good, tag}, api.ErrLong},
		{[]descr.Descriptor{good, tag, good, body}, api.ErrRange},
		{[]descr.Descriptor{good, good, body, tag, both}, api.ErrLong},
	} {
		makesLoop(t, "several", c.l, c.e)
		for _, long := range []int{4000, 4094, 4095, 4096, 9000} {
			makesLoop(t, "behind others", append(filled(long), c.l...), c.e)
			makesLoop(t, "ahead of others", append(slices.Clone(c.l), filled(long)...), c.e)
		}
	}
	for at := range filled(6000) {
		l := filled(6000)
		l[at].Tag = 256
		makesLoop(t, "a Tag in a loop that is too long", l, api.ErrRange)
		l[at] = d(5, dots(256))
		makesLoop(t, "a Body in a loop that is too long", l, api.ErrLong)
		l[len(l)-1].Tag = -1
		e := api.ErrLong
		if at == len(l)-1 {
			e = api.ErrRange
		}
		makesLoop(t, "a Body, and a Tag behind it", l, e)
	}
}

// P18.1: texts that end behind a tag, and in the middle of a body, at each place.
func TestParseOfWhatEndsInTheMiddle(t *testing.T) {
	l := []descr.Descriptor{d(1, ""), d(2, "a"), d(3, "\x00\x00\x00"), d(4, dots(255)), d(0, "")}
	s, _ := descr.Loop(l...)
	ends := map[int]int{0: 0, 2: 1, 5: 2, 10: 3, 267: 4, 269: 5}
	for long := range len(s) + 1 {
		if many, is := ends[long]; is {
			parses(t, "whole", s[:long], l[:many], api.OK)
			continue
		}
		parses(t, "cut", s[:long], nil, api.ErrShort)
	}
	for n := range 256 {
		parses(t, "a tag alone", one(n), nil, api.ErrShort)
		parses(t, "a tag behind another", s+one(n), nil, api.ErrShort)
		if n > 0 {
			parses(t, "a byte less", "\x05"+one(n)+dots(n-1), nil, api.ErrShort)
			parses(t, "none", s+"\x05"+one(n), nil, api.ErrShort)
		}
	}
}

// P18.1: texts of 4095 and 4096 bytes that end in the middle.
func TestParseOfLongOnesThatEndInTheMiddle(t *testing.T) {
	for _, c := range []string{"\x00", "\xff", "\x01"} {
		for _, long := range []int{4093, 4094, 4095} {
			s := strings.Repeat(c, long)
			want, e := slowParse(s)
			parses(t, "long", s, want, e)
		}
		for _, long := range []int{4096, 4097, 4098, 8190, 65536} {
			parses(t, "too long", strings.Repeat(c, long), nil, api.ErrLong)
		}
	}
	parses(t, "4095 bytes", strings.Repeat("\x00", 4095), nil, api.ErrShort)
	parses(t, "4094 bytes", strings.Repeat("\x00", 4094), make([]descr.Descriptor, 2047), api.OK)
	l := filled(4095)
	s, _ := descr.Loop(l...)
	last := len(l[len(l)-1].Body)
	parses(t, "4094 bytes", s[:4094], nil, api.ErrShort)
	parses(t, "a byte less than is told", put(s, 4094-last, last+1), nil, api.ErrShort)
	parses(t, "a byte more than is told", put(s, 4094-last, last-1), nil, api.ErrShort)
	parses(t, "4096 bytes", s+"x", nil, api.ErrLong)
}

// finds holds Find against what is told; the list stays as it was.
func finds(t *testing.T, l []descr.Descriptor, tag int, want descr.Descriptor, e api.Errno) {
	t.Helper()
	behind := d(tag, "behind")
	given := roomy(l, behind)
	if got, f := descr.Find(given, tag); got != want || f != e {
		t.Errorf("%v, %d: %v, %v, not %v, %v", l, tag, got, f, want, e)
	}
	untouched(t, "Find", given, l, behind)
}

// P18.1: what is there once, at each place, twice, and not at all; in lists of what may not be, too.
func TestFind(t *testing.T) {
	none := descr.Descriptor{}
	l := []descr.Descriptor{d(5, "a"), d(0, ""), d(255, "z"), d(119, "abc")}
	for _, x := range l {
		finds(t, l, x.Tag, x, api.OK)
	}
	for _, tag := range []int{1, -1, 4, 6, 254, 256, 261, 511, 1<<32 + 5, -251, math.MinInt, math.MaxInt} {
		finds(t, l, tag, none, api.ErrNone)
	}
	finds(t, nil, 0, none, api.ErrNone)
	finds(t, []descr.Descriptor{}, 5, none, api.ErrNone)
	twice := []descr.Descriptor{d(1, "x"), d(5, "first"), d(5, "second"), d(1, "y"), d(5, "first"), d(7, "")}
	finds(t, twice, 5, twice[1], api.OK)
	finds(t, twice, 1, twice[0], api.OK)
	finds(t, twice, 7, twice[5], api.OK)
	finds(t, twice, 2, none, api.ErrNone)
	wrong := []descr.Descriptor{d(256, "a"), d(-1, dots(300)), d(0, "b")}
	finds(t, wrong, 256, wrong[0], api.OK)
	finds(t, wrong, -1, wrong[1], api.OK)
	finds(t, wrong, 0, wrong[2], api.OK)
	finds(t, wrong, 255, none, api.ErrNone)
}

// P18.1: any texts at all, by the words.
func TestParseOfAny(t *testing.T) {
	s := noise(5)
	seen := map[api.Errno]int{}
	for range 20000 {
		text := ""
		for range s.below(6) {
			long := s.below(6)
			text += one(s.below(256)) + one(long) + s.text(long)
		}
		if s.below(2) == 0 {
			text = text[:s.below(len(text)+1)]
		}
		want, e := slowParse(text)
		parses(t, "any", text, want, e)
		seen[e]++
	}
	if seen[api.OK] < 3000 || seen[api.ErrShort] < 3000 {
		t.Error("too few of a kind:", seen)
	}
}

// P18.1: any lists at all, by the words.
func TestLoopOfAny(t *testing.T) {
	s := noise(6)
	seen := map[api.Errno]int{}
	for range 4000 {
		l := s.list(s.below(25), 255)
		for k := range l {
			if s.below(60) == 0 {
				l[k].Tag = s.below(2)*257 - 1
			}
			if s.below(60) == 0 {
				l[k].Body = dots(256 + s.below(3))
			}
		}
		_, e := slowLoop(l)
		makesLoop(t, "any", l, e)
		seen[e]++
	}
	if seen[api.OK] < 500 || seen[api.ErrRange] < 300 || seen[api.ErrLong] < 300 {
		t.Error("too few of a kind:", seen)
	}
}
