package section_test

import (
	"math"
	"slices"
	"strings"
	"testing"

	"clarion/api"
	"clarion/section"
)

const (
	piece = 4084        // bytes of a body
	most  = 256 * piece // bytes of all bodies
)

// splits holds Split of a text against what it must answer.
func splits(t *testing.T, table, ext, version int, body string) {
	t.Helper()
	l, e := section.Split(table, ext, version, body)
	var want []section.Section
	for rest := body; rest != "" || want == nil; {
		n := min(piece, len(rest))
		want = append(want, section.Section{Table: table, Ext: ext, Version: version, Now: true, Number: len(want), Body: rest[:n]})
		rest = rest[n:]
	}
	for n := range want {
		want[n].Last = len(want) - 1
	}
	if e != api.OK || !slices.Equal(l, want) {
		t.Fatalf("%d %d %d, %d bytes: %d sections, %v, not %d", table, ext, version, len(body), len(l), e, len(want))
	}
}

// fails holds Split against an error.
func fails(t *testing.T, table, ext, version, long int, want api.Errno) {
	t.Helper()
	if l, e := section.Split(table, ext, version, dots(long)); len(l) != 0 || e != want {
		t.Errorf("%d %d %d, %d bytes: %d sections, %v, not %v", table, ext, version, long, len(l), e, want)
	}
}

// P8.3: no byte, less than a piece, just some pieces, and a byte more and less.
func TestSplit(t *testing.T) {
	s := noise(13)
	for _, long := range []int{0, 1, 2, 100, 4083, 4084, 4085, 4096, 8167, 8168, 8169, 12251, 12252, 12253, 100000} {
		splits(t, 1, 2, 3, s.text(long))
	}
}

// P8.3: how many there are, and how long the last one is, by name.
func TestSplitByName(t *testing.T) {
	for long, want := range map[int][2]int{0: {1, 0}, 1: {1, 1}, 4084: {1, 4084}, 4085: {2, 1}, 8168: {2, 4084}, 8169: {3, 1}, most - piece: {255, piece}, most - piece + 1: {256, 1}, most: {256, piece}} {
		l, e := section.Split(255, 0, 31, dots(long))
		if e != api.OK || len(l) != want[0] {
			t.Fatalf("%d bytes: %d sections, %v", long, len(l), e)
		}
		last := l[len(l)-1]
		if len(last.Body) != want[1] || last.Number != want[0]-1 || last.Last != want[0]-1 || !last.Now || last.Private {
			t.Errorf("%d bytes: %s", long, short(last))
		}
	}
}

// P8.3: as many sections as there may be; of a byte more, ErrFull, whatever else is wrong (R1).
func TestSplitOfTheMost(t *testing.T) {
	s := noise(15)
	splits(t, 66, 0x1234, 5, s.text(most-1))
	splits(t, 66, 0x1234, 5, s.text(most))
	for _, long := range []int{most + 1, most + 2, most + piece, most + piece + 1, 2 * most, 2*most + 1} {
		fails(t, 66, 0x1234, 5, long, api.ErrFull)
		fails(t, 256, 0x1234, 5, long, api.ErrFull)
		fails(t, 66, -1, 5, long, api.ErrFull)
		fails(t, 66, 0x1234, 32, long, api.ErrFull)
	}
	fails(t, 256, 0, 0, most, api.ErrRange)
}

// P8.3: tables, exts and versions that may be, and that may not.
func TestSplitOfNumbers(t *testing.T) {
	for _, long := range []int{0, 5, 4085} {
		for n := range 256 {
			splits(t, n, 0, 0, dots(long))
			splits(t, 0, n*257, 0, dots(long))
			splits(t, 255, n, n%32, dots(long))
		}
		for _, n := range outside(255) {
			fails(t, n, 2, 3, long, api.ErrRange)
		}
		for _, n := range outside(65535) {
			fails(t, 1, n, 3, long, api.ErrRange)
		}
		for _, n := range outside(31) {
			fails(t, 1, 2, n, long, api.ErrRange)
		}
		fails(t, math.MinInt, math.MaxInt, -1, long, api.ErrRange)
	}
}

// joins holds Join of a list against what it must answer, and leaves the list as it was (R2).
func joins(t *testing.T, want string, e api.Errno, l ...section.Section) {
	t.Helper()
	kept := slices.Clone(l)
	if s, got := section.Join(l...); got != e || s != want {
		t.Errorf("%d sections: %d bytes, %v, not %d, %v", len(l), len(s), got, len(want), e)
	}
	if !slices.Equal(l, kept) {
		t.Errorf("%d sections have become other ones", len(l))
	}
}

// row is so many sections that are a text together, with bodies of any lengths.
func row(many int) []section.Section {
	s := noise(17)
	l := make([]section.Section, many)
	for n := range l {
		l[n] = section.Section{Table: 66, Private: true, Ext: 0x1234, Version: 5, Number: n, Last: many - 1, Body: s.text(1 + s.below(20))}
	}
	return l
}

func bodies(l []section.Section) string {
	var all strings.Builder
	for _, s := range l {
		all.WriteString(s.Body)
	}
	return all.String()
}

// P8.3: none.
func TestJoinOfNone(t *testing.T) {
	joins(t, "", api.ErrNone)
	joins(t, "", api.ErrNone, []section.Section{}...)
	if s, e := section.Join(nil...); s != "" || e != api.ErrNone {
		t.Errorf("%q, %v", s, e)
	}
}

// P8.3: one, several, and as many as there may be; bodies may be short, and empty, anywhere.
func TestJoin(t *testing.T) {
	for _, many := range []int{1, 2, 3, 4, 10, 255, 256} {
		joins(t, bodies(row(many)), api.OK, row(many)...)
	}
	for _, s := range samples() {
		s.Number, s.Last = 0, 0
		joins(t, s.Body, api.OK, s)
	}
	l := row(4)
	l[0].Body, l[2].Body = "", dots(4084)
	joins(t, l[1].Body+dots(4084)+l[3].Body, api.OK, l...)
	for n := range l {
		l[n].Body = ""
	}
	joins(t, "", api.OK, l...)
}

// P8.3: each order but the one is none.
func TestJoinOfOtherOrders(t *testing.T) {
	good := 0
	for n := range 4 * 4 * 4 * 4 {
		var l []section.Section
		for _, at := range []int{n / 64, n / 16 % 4, n / 4 % 4, n % 4} {
			l = append(l, row(4)[at])
		}
		if slices.Equal(l, row(4)) {
			joins(t, bodies(l), api.OK, l...)
			good++
			continue
		}
		joins(t, "", api.ErrOrder, l...)
	}
	if good != 1 {
		t.Error(good)
	}
}

// P8.3: one missing, and one twice, at each place.
func TestJoinOfTooFewAndTooMany(t *testing.T) {
	for _, many := range []int{2, 3, 5, 256} {
		for at := range many {
			joins(t, "", api.ErrOrder, slices.Delete(row(many), at, at+1)...)
			joins(t, "", api.ErrOrder, slices.Insert(row(many), at, row(many)[at])...)
			joins(t, "", api.ErrOrder, row(many)[at])
		}
		joins(t, "", api.ErrOrder, append(row(many), row(many)...)...)
		joins(t, "", api.ErrOrder, append(row(many), row(many)[0])...)
	}
	joins(t, "", api.ErrOrder, row(1)[0], row(1)[0])
}

// others is what makes a section, that may be, one of another kind.
func others() map[string]func(s *section.Section) {
	return map[string]func(s *section.Section){
		"Table":   func(s *section.Section) { s.Table++ },
		"Private": func(s *section.Section) { s.Private = !s.Private },
		"Ext":     func(s *section.Section) { s.Ext ^= 0x100 },
		"Version": func(s *section.Section) { s.Version-- },
		"Now":     func(s *section.Section) { s.Now = !s.Now },
		"Last":    func(s *section.Section) { s.Last++ },
	}
}

// P8.3: one of another kind, at each place; the kind is named ahead of the order.
func TestJoinOfOtherKinds(t *testing.T) {
	for name, turn := range others() {
		t.Run(name, func(t *testing.T) {
			for _, many := range []int{2, 3, 5} {
				for at := range many {
					l := row(many)
					turn(&l[at])
					joins(t, "", api.ErrKind, l...)
					joins(t, "", api.ErrKind, append(l, l[0])...)
					l[0], l[many-1] = l[many-1], l[0]
					joins(t, "", api.ErrKind, l...)
				}
			}
			l := row(3)
			for at := range l {
				turn(&l[at])
			}
			if _, e := section.Join(l...); e == api.ErrKind {
				t.Error("all of the other kind are not the same")
			}
		})
	}
}

// P8.3: one that may not be, at each place, whatever else is wrong ahead of it or behind.
func TestJoinOfOneThatMayNotBe(t *testing.T) {
	for name, turn := range others() {
		t.Run(name, func(t *testing.T) {
			for n := range 4 * 4 {
				l := row(4)
				turn(&l[n/4])
				l[n%4].Body = dots(4085)
				joins(t, "", api.ErrFull, l...)
				l[n%4].Number = l[n%4].Last + 1
				joins(t, "", api.ErrRange, l...)
				slices.Reverse(l)
				joins(t, "", api.ErrRange, l...)
			}
		})
	}
	for _, f := range fields() {
		for _, n := range outside(f.last) {
			l := row(2)
			f.set(&l[1], n)
			joins(t, "", api.ErrRange, l...)
			joins(t, "", api.ErrRange, l[1])
			for at := range l {
				f.set(&l[at], n)
			}
			joins(t, "", api.ErrRange, l...)
		}
	}
}

// P8.3: two that may not be: the first one's error is answered, as they are asked one by one.
func TestJoinOfTwoThatMayNotBe(t *testing.T) {
	l := row(3)
	l[1].Body, l[2].Ext = dots(4085), -1
	joins(t, "", api.ErrFull, l...)
	slices.Reverse(l)
	joins(t, "", api.ErrRange, l...)
	joins(t, "", api.ErrFull, section.Section{Body: dots(4085)}, section.Section{Table: 256})
	joins(t, "", api.ErrRange, section.Section{Table: 256}, section.Section{Body: dots(4085)})
}

// R2: what stands behind the list is left alone; the list that Split answers is the caller's.
func TestListsAreLeftAlone(t *testing.T) {
	l := append(row(3), section.Section{Table: 9, Body: "behind"})
	joins(t, bodies(row(3)), api.OK, l[:3]...)
	if l[3] != (section.Section{Table: 9, Body: "behind"}) {
		t.Errorf("%+v", l[3])
	}
	first, _ := section.Split(1, 2, 3, dots(9000))
	for n := range first {
		first[n] = section.Section{Table: 7}
	}
	splits(t, 1, 2, 3, dots(9000))
}
