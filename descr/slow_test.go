package descr_test

import (
	"fmt"
	"slices"
	"strings"
	"testing"

	"clarion/api"
	"clarion/descr"
)

// The chapter's words in whole numbers, place by place, so that the package is not held against its own ways of reading and writing.

// one is a byte; two is a number of 16 bits as bytes, the high one first; three is one of 24 bits.
func one(n int) string   { return string([]byte{byte(n)}) }
func two(n int) string   { return one(n/256) + one(n%256) }
func three(n int) string { return one(n/65536) + two(n%65536) }

// valueOf is the number of bytes, the high one first.
func valueOf(s string) int {
	n := 0
	for k := range len(s) {
		n = n*256 + int(s[k])
	}
	return n
}

// bit is that of what is, or is not.
func bit(is bool) int {
	if is {
		return 1
	}
	return 0
}

// put is s with another byte at a place.
func put(s string, at, n int) string { return s[:at] + one(n) + s[at+1:] }

// dots is so many bytes.
func dots(long int) string { return strings.Repeat(".", long) }

// out tells whether a number is not from 0 to below many.
func out(n, many int) bool { return n < 0 || n >= many }

// outside is numbers that are not from 0 to last; cut to fewer bits, some would be.
func outside(last int) []int {
	return []int{-1, -2, -last, -last - 1, -last - 2, last + 1, last + 2, 2*last + 2, 1<<16 + last + 1, 1<<24 + last + 1, 1 << 32, 1<<32 + 1, -1 << 32, -1 << 63, -1<<63 + 1, 1<<63 - 1}
}

// slowLoop is what Loop must answer.
func slowLoop(l []descr.Descriptor) (string, api.Errno) {
	s := ""
	for _, d := range l {
		if out(d.Tag, 256) {
			return "", api.ErrRange
		}
		if len(d.Body) > 255 {
			return "", api.ErrLong
		}
		s += one(d.Tag) + one(len(d.Body)) + d.Body
	}
	if len(s) > 4095 {
		return "", api.ErrLong
	}
	return s, api.OK
}

// slowParse is what Parse must answer.
func slowParse(s string) ([]descr.Descriptor, api.Errno) {
	if len(s) > 4095 {
		return nil, api.ErrLong
	}
	var l []descr.Descriptor
	for at := 0; at < len(s); {
		if at+1 == len(s) {
			return nil, api.ErrShort
		}
		begin := at + 2
		end := begin + int(s[at+1])
		if end > len(s) {
			return nil, api.ErrShort
		}
		l = append(l, descr.Descriptor{Tag: int(s[at]), Body: s[begin:end]})
		at = end
	}
	return l, api.OK
}

// slowSlice is what a Slice's Make must answer.
func slowSlice(x descr.Slice) (descr.Descriptor, api.Errno) {
	if !slices.Contains([]int{256, 512, 768, 1024}, x.Rows) || out(x.Burst, 256) || out(x.Rate, 16) || out(x.ID, 16) {
		return descr.Descriptor{}, api.ErrRange
	}
	if len(x.More) > 252 {
		return descr.Descriptor{}, api.ErrLong
	}
	first := 128*bit(x.Slicing) + 32*bit(x.Fec) + 24 + x.Rows/256 - 1
	return descr.Descriptor{Tag: 119, Body: one(first) + one(x.Burst) + one(x.Rate*16+x.ID) + x.More}, api.OK
}

// slowReadSlice is what ReadSlice must answer: of all that a first byte could tell, what this one tells.
func slowReadSlice(d descr.Descriptor) (descr.Slice, api.Errno) {
	if d.Tag != 119 {
		return descr.Slice{}, api.ErrKind
	}
	if len(d.Body) < 3 {
		return descr.Slice{}, api.ErrShort
	}
	for rows := 256; rows <= 1024 && len(d.Body) <= 255; rows += 256 {
		for n := range 4 {
			x := descr.Slice{Slicing: n/2 == 1, Fec: n%2 == 1, Rows: rows, Burst: int(d.Body[1]), Rate: int(d.Body[2]) / 16, ID: int(d.Body[2]) % 16, More: d.Body[3:]}
			if y, _ := slowSlice(x); y == d {
				return x, api.OK
			}
		}
	}
	return descr.Slice{}, api.ErrForm
}

// slowPlace is what a Place's Make must answer.
func slowPlace(x descr.Place) (descr.Descriptor, api.Errno) {
	if out(x.Network, 65536) || out(x.Original, 65536) || out(x.Stream, 65536) || out(x.Service, 65536) || out(x.Tag, 256) {
		return descr.Descriptor{}, api.ErrRange
	}
	return descr.Descriptor{Tag: 19, Body: two(x.Network) + two(x.Original) + two(x.Stream) + two(x.Service) + one(x.Tag)}, api.OK
}

// slowReadPlace is what ReadPlace must answer.
func slowReadPlace(d descr.Descriptor) (descr.Place, api.Errno) {
	s := d.Body
	switch {
	case d.Tag != 19:
		return descr.Place{}, api.ErrKind
	case len(s) < 9:
		return descr.Place{}, api.ErrShort
	case len(s) > 9:
		return descr.Place{}, api.ErrLong
	}
	return descr.Place{Network: valueOf(s[:2]), Original: valueOf(s[2:4]), Stream: valueOf(s[4:6]), Service: valueOf(s[6:8]), Tag: valueOf(s[8:])}, api.OK
}

// slowTargets is what Targets must answer.
func slowTargets(l []descr.Target) (descr.Descriptor, api.Errno) {
	s := ""
	for _, x := range l {
		if out(x.Bits, 33) {
			return descr.Descriptor{}, api.ErrRange
		}
		s += string(x.Addr[:]) + one(x.Bits)
	}
	if len(l) > 51 {
		return descr.Descriptor{}, api.ErrLong
	}
	return descr.Descriptor{Tag: 15, Body: s}, api.OK
}

// slowReadTargets is what ReadTargets must answer.
func slowReadTargets(d descr.Descriptor) ([]descr.Target, api.Errno) {
	if d.Tag != 15 {
		return nil, api.ErrKind
	}
	if len(d.Body)%5 != 0 {
		return nil, api.ErrShort
	}
	var l []descr.Target
	for at := 0; at < len(d.Body); at += 5 {
		x := descr.Target{Bits: int(d.Body[at+4])}
		copy(x.Addr[:], d.Body[at:at+4])
		if l = append(l, x); x.Bits > 32 || len(l) > 51 {
			return nil, api.ErrForm
		}
	}
	return l, api.OK
}

// loops is an Int's loops, in their order.
func loops(x descr.Int) [][]descr.Descriptor {
	l := [][]descr.Descriptor{x.Info}
	for _, n := range x.Entries {
		l = append(l, n.Targets, n.Ops)
	}
	return l
}

// may tells whether an Int may be.
func may(x descr.Int) bool {
	return !out(x.Action, 256) && !out(x.Platform, 16777216) && !out(x.Order, 256)
}

// slowBody is what an Int's Body must answer.
func slowBody(x descr.Int) (string, api.Errno) {
	if !may(x) {
		return "", api.ErrRange
	}
	s := three(x.Platform) + one(x.Order)
	for _, l := range loops(x) {
		text, e := slowLoop(l)
		if e != api.OK {
			return "", e
		}
		s += two(len(text)+61440) + text
	}
	return s, api.OK
}

// slowExt is what an Int's Ext must answer.
func slowExt(x descr.Int) int {
	if !may(x) {
		return 0
	}
	s := three(x.Platform)
	return x.Action*256 + int(s[0]^s[1]^s[2])
}

// slowReadInt is what ReadInt must answer. How many bytes a loop has is what the low 12 bits tell, be the four ahead of them as they must be or not.
func slowReadInt(ext int, body string) (descr.Int, api.Errno) {
	if out(ext, 65536) {
		return descr.Int{}, api.ErrRange
	}
	if len(body) < 6 {
		return descr.Int{}, api.ErrShort
	}
	var texts []string
	good := true
	for at := 4; at < len(body); {
		if at+2 > len(body) {
			return descr.Int{}, api.ErrShort
		}
		size := valueOf(body[at : at+2])
		end := at + 2 + size%4096
		if end > len(body) {
			return descr.Int{}, api.ErrShort
		}
		good = good && size >= 61440
		texts = append(texts, body[at+2:end])
		at = end
	}
	if len(texts)%2 == 0 {
		return descr.Int{}, api.ErrShort
	}
	x := descr.Int{Action: ext / 256, Platform: valueOf(body[:3]), Order: int(body[3]), Entries: make([]descr.Entry, len(texts)/2)}
	for k, s := range texts {
		l, e := slowParse(s)
		switch {
		case e != api.OK:
			return descr.Int{}, e
		case k == 0:
			x.Info = l
		case k%2 == 1:
			x.Entries[k/2].Targets = l
		default:
			x.Entries[k/2-1].Ops = l
		}
	}
	if !good || slowExt(x) != ext {
		return descr.Int{}, api.ErrForm
	}
	return x, api.OK
}

// sameInt tells whether two Ints are the same.
func sameInt(a, b descr.Int) bool {
	return a.Action == b.Action && a.Platform == b.Platform && a.Order == b.Order && slices.EqualFunc(loops(a), loops(b), slices.Equal)
}

// copied is an Int of lists of its own.
func copied(x descr.Int) descr.Int {
	x.Info, x.Entries = slices.Clone(x.Info), slices.Clone(x.Entries)
	for k, n := range x.Entries {
		x.Entries[k] = descr.Entry{Targets: slices.Clone(n.Targets), Ops: slices.Clone(n.Ops)}
	}
	return x
}

// roomy is a list with others behind its length; untouched tells whether all is still as roomy made it.
func roomy[T any](l []T, behind T) []T { return append(slices.Clone(l), behind, behind)[:len(l)] }

func untouched[T comparable](t *testing.T, name string, l, kept []T, behind T) {
	t.Helper()
	if !slices.Equal(l, kept) || !slices.Equal(l[len(l):len(l)+2], []T{behind, behind}) {
		t.Errorf("%s: what is handed in is another one: %v", name, l[:len(l)+2])
	}
}

// brief is how something begins.
func brief(x any) string { return fmt.Sprintf("%.200s", fmt.Sprintf("%+q", x)) }

// holds holds an answer, and the words' answer, against what is told.
func holds[T any](t *testing.T, name string, same func(a, b T) bool, got T, gotE api.Errno, slow T, slowE api.Errno, want T, e api.Errno) {
	t.Helper()
	if !same(slow, want) || slowE != e {
		t.Fatalf("%s: by the words %s, %v, not %s, %v", name, brief(slow), slowE, brief(want), e)
	}
	if !same(got, want) || gotE != e {
		t.Errorf("%s: %s, %v, not %s, %v", name, brief(got), gotE, brief(want), e)
	}
}

// equal is == of what has it.
func equal[T comparable](a, b T) bool { return a == b }

// makesLoop holds Loop against the words, whose error must be the one that is told; nothing is answered beside an error (R1), and the list stays as it was (R2).
func makesLoop(t *testing.T, name string, l []descr.Descriptor, e api.Errno) {
	t.Helper()
	want, f := slowLoop(l)
	behind := descr.Descriptor{Tag: 77, Body: "behind"}
	given := roomy(l, behind)
	got, g := descr.Loop(given...)
	holds(t, name, equal, got, g, want, f, want, e)
	untouched(t, name, given, l, behind)
}

// parses holds Parse, and the words, against what is told.
func parses(t *testing.T, name, s string, want []descr.Descriptor, e api.Errno) {
	t.Helper()
	slow, f := slowParse(s)
	got, g := descr.Parse(s)
	holds(t, name, slices.Equal, got, g, slow, f, want, e)
}

// makesSlice holds a Slice's Make so.
func makesSlice(t *testing.T, x descr.Slice, e api.Errno) {
	t.Helper()
	want, f := slowSlice(x)
	got, g := x.Make()
	holds(t, "Make of a Slice", equal, got, g, want, f, want, e)
}

// readsSlice holds ReadSlice against the words, and tells their error.
func readsSlice(t *testing.T, d descr.Descriptor) api.Errno {
	t.Helper()
	want, e := slowReadSlice(d)
	got, g := descr.ReadSlice(d)
	holds(t, "ReadSlice", equal, got, g, want, e, want, e)
	return e
}

// makesPlace and readsPlace are those of a Place.
func makesPlace(t *testing.T, x descr.Place, e api.Errno) {
	t.Helper()
	want, f := slowPlace(x)
	got, g := x.Make()
	holds(t, "Make of a Place", equal, got, g, want, f, want, e)
}

func readsPlace(t *testing.T, d descr.Descriptor) api.Errno {
	t.Helper()
	want, e := slowReadPlace(d)
	got, g := descr.ReadPlace(d)
	holds(t, "ReadPlace", equal, got, g, want, e, want, e)
	return e
}

// makesTargets and readsTargets are those of targets.
func makesTargets(t *testing.T, l []descr.Target, e api.Errno) {
	t.Helper()
	want, f := slowTargets(l)
	behind := descr.Target{Addr: [4]byte{9, 9, 9, 9}, Bits: 9}
	given := roomy(l, behind)
	got, g := descr.Targets(given...)
	holds(t, "Targets", equal, got, g, want, f, want, e)
	untouched(t, "Targets", given, l, behind)
}

func readsTargets(t *testing.T, d descr.Descriptor) api.Errno {
	t.Helper()
	want, e := slowReadTargets(d)
	got, g := descr.ReadTargets(d)
	holds(t, "ReadTargets", slices.Equal, got, g, want, e, want, e)
	return e
}

// makesInt holds Body and Ext so.
func makesInt(t *testing.T, x descr.Int, e api.Errno) {
	t.Helper()
	want, f := slowBody(x)
	kept := copied(x)
	got, g := x.Body()
	holds(t, "Body", equal, got, g, want, f, want, e)
	if n := x.Ext(); n != slowExt(x) {
		t.Errorf("%s: %d, not %d", brief(x), n, slowExt(x))
	}
	if !sameInt(x, kept) {
		t.Errorf("Body: what is handed in is another one: %s, not %s", brief(x), brief(kept))
	}
}

// readsInt is that of ReadInt.
func readsInt(t *testing.T, ext int, body string) api.Errno {
	t.Helper()
	want, e := slowReadInt(ext, body)
	got, g := descr.ReadInt(ext, body)
	holds(t, "ReadInt", sameInt, got, g, want, e, want, e)
	return e
}

// told holds an error against the one that a test tells.
func told(t *testing.T, name string, got, want api.Errno) {
	t.Helper()
	if got != want {
		t.Errorf("%s: %v, not %v", name, got, want)
	}
}

// noise is numbers that follow no rule to be seen, the same ones at each run.
type noise uint64

func (s *noise) below(n int) int {
	*s = *s*6364136223846793005 + 1442695040888963407
	return int((uint64(*s) ^ uint64(*s)>>29) >> 33 % uint64(n))
}

func (s *noise) text(long int) string {
	b := make([]byte, long)
	for i := range b {
		b[i] = byte(s.below(256))
	}
	return string(b)
}

// list is so many descriptors that may be, of any Tags.
func (s *noise) list(many, long int) []descr.Descriptor {
	var l []descr.Descriptor
	for range many {
		l = append(l, descr.Descriptor{Tag: s.below(256), Body: s.text(s.below(long + 1))})
	}
	return l
}

// slice is a Slice that may be, place a Place, targets targets, and table an Int.
func (s *noise) slice() descr.Slice {
	return descr.Slice{Slicing: s.below(2) == 1, Fec: s.below(2) == 1, Rows: 256 * (1 + s.below(4)), Burst: s.below(256), Rate: s.below(16), ID: s.below(16), More: s.text(s.below(2) * s.below(253))}
}

func (s *noise) place() descr.Place {
	return descr.Place{Network: s.below(65536), Original: s.below(65536), Stream: s.below(65536), Service: s.below(65536), Tag: s.below(256)}
}

func (s *noise) targets(many int) []descr.Target {
	var l []descr.Target
	for range many {
		x := descr.Target{Bits: s.below(33)}
		copy(x.Addr[:], s.text(4))
		l = append(l, x)
	}
	return l
}

func (s *noise) table(many int) descr.Int {
	x := descr.Int{Action: s.below(256), Platform: s.below(16777216), Order: s.below(256), Info: s.list(s.below(4), 9)}
	for range many {
		x.Entries = append(x.Entries, descr.Entry{Targets: s.list(s.below(4), 9), Ops: s.list(s.below(4), 9)})
	}
	return x
}
