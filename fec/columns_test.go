package fec_test

import (
	"slices"
	"testing"

	"clarion/api"
	"clarion/fec"
)

// columns is so many columns of so many bytes, no two of them the same.
func columns(many, long int) []string {
	s := noise(17)
	l := make([]string, many)
	for n := range l {
		l[n] = s.text(long)
	}
	return l
}

// expects holds Columns against the words, which must say this error.
func expects(t *testing.T, name string, want api.Errno, padding int, l ...string) {
	t.Helper()
	if e := makes(t, name, padding, l...); e != want {
		t.Errorf("%s, padding %d, %d columns: the words say %v, not %v", name, padding, len(l), e, want)
	}
}

// P11.3: of none there is nothing, and no error, whatever the Padding.
func TestColumnsOfNone(t *testing.T) {
	for _, padding := range append(outside(191), 0, 1, 190, 191) {
		for _, l := range [][]string{nil, {}} {
			if got, e := fec.Columns(padding, l...); len(got) != 0 || e != api.OK {
				t.Errorf("%d: %d, %v", padding, len(got), e)
			}
		}
	}
	expects(t, "no list", api.OK, 0)
}

// P11.3: of one, as it stands in the words: the first one is the last.
func TestColumnsOfOne(t *testing.T) {
	for _, text := range []string{filled(1, 256), filled(2, 512), filled(3, 768), filled(4, 1024)} {
		got, e := fec.Columns(9, text)
		if want := (fec.Part{Padding: 9, Times: api.Times{Frame: true}, Text: text}); e != api.OK || len(got) != 1 || got[0] != want {
			t.Errorf("%d bytes: %d, %v", len(text), len(got), e)
		}
	}
}

// P11.3: of each number of columns that may be, and of each length.
func TestColumnsOfEachNumber(t *testing.T) {
	for many := range 65 {
		for _, long := range longs() {
			expects(t, "columns", api.OK, many, columns(many, long)...)
		}
	}
}

// P11.3: of 64, by hand: At, Table, Frame and Delta of the first one, of one in the middle, and of the last.
func TestColumnsByHand(t *testing.T) {
	for _, long := range longs() {
		l := columns(64, long)
		got, e := fec.Columns(191, l...)
		if e != api.OK || len(got) != 64 {
			t.Fatal(long, len(got), e)
		}
		for _, n := range []int{0, 1, 31, 62, 63} {
			want := fec.Part{Padding: 191, Number: n, Last: 63, Times: api.Times{At: n * long}, Text: l[n]}
			want.Times.Frame = n == 63
			if got[n] != want {
				t.Errorf("%d bytes, %d: %s", long, n, short(got[n]))
			}
		}
	}
}

// P11.3: of 65, and of more, no one may be, whatever they are.
func TestColumnsOfTooMany(t *testing.T) {
	for _, many := range []int{65, 66, 127, 128, 129, 192, 255, 256, 257, 320, 512, 1000} {
		expects(t, "too many", api.ErrRange, 0, columns(many, 256)...)
		expects(t, "too many, of no bytes", api.ErrRange, 0, make([]string, many)...)
	}
	expects(t, "too many", api.ErrRange, 191, make([]string, 1<<20)...)
	l := columns(65, 1024)
	expects(t, "one less", api.OK, 0, l[:64]...)
	expects(t, "one less", api.OK, 0, l[1:]...)
}

// P11.3: Padding at both ends, one beyond, and further; ErrRange is named ahead of a length (R1).
func TestColumnsOfPaddings(t *testing.T) {
	l := columns(3, 256)
	for n := range 192 {
		expects(t, "padding", api.OK, n, l...)
	}
	for _, n := range outside(191) {
		expects(t, "padding", api.ErrRange, n, l...)
		expects(t, "padding, of one", api.ErrRange, n, l[0])
		expects(t, "padding, and a length", api.ErrRange, n, "x", l[0])
	}
}

// P11.3: of which one has a length that no column may have, at each place.
func TestColumnsOfAnotherLength(t *testing.T) {
	for _, long := range []int{255, 257, 511, 513, 767, 769, 1023, 1025, 0, 1, 1280, 4096} {
		for at := range 64 {
			l := columns(64, 256)
			l[at] = filled('x', long)
			expects(t, "another length", api.ErrForm, 0, l...)
			expects(t, "another length at the end", api.ErrForm, 0, l[:at+1]...)
		}
		expects(t, "alone", api.ErrForm, 0, filled('x', long))
	}
}

// P11.3: of which one has another length that may be: each one's At is by its own bytes.
func TestColumnsOfSeveralLengths(t *testing.T) {
	for _, long := range []int{512, 768, 1024} {
		for at := range 5 {
			l := columns(5, 256)
			l[at] = filled('x', long)
			expects(t, "several lengths", api.OK, 7, l...)
			got, _ := fec.Columns(7, l...)
			if len(got) != 5 || got[at].Times.At != at*long || at > 0 && got[at-1].Times.At != (at-1)*256 {
				t.Errorf("%d bytes at %d: %d", long, at, len(got))
			}
		}
	}
}

// P11.3: of so many bytes ahead of one that At may not be, and of just as many as may be: then it is the length that may not.
func TestColumnsOfTooManyBytesAhead(t *testing.T) {
	for at := 1; at < 64; at++ {
		l := columns(64, 256)
		l[at] = filled('x', 262143/at)
		expects(t, "as many as may be", api.ErrForm, 0, l...)
		l[at] += "x"
		expects(t, "too many", api.ErrRange, 0, l...)
		expects(t, "too many at the end", api.ErrRange, 0, l[:at+1]...)
		l[at-1] = ""
		expects(t, "too many behind a length", api.ErrForm, 0, l...)
	}
	long := filled('x', 262144)
	expects(t, "none ahead", api.ErrForm, 0, long)
	expects(t, "none ahead", api.ErrForm, 0, long, long)
	expects(t, "one ahead", api.ErrRange, 0, filled('x', 256), long)
	expects(t, "one ahead, and a length", api.ErrRange, 0, filled('x', 256), long, "x")
}

// P11.3: any columns, by the words: those that may be, and with some that may not.
func TestColumnsOfAny(t *testing.T) {
	s := noise(19)
	seen := map[api.Errno]int{}
	for range 300 {
		l := columns(s.below(70), 256+256*s.below(4))
		if len(l) > 0 && s.below(3) == 0 {
			l[s.below(len(l))] = s.text(s.below(1100))
		}
		if len(l) > 0 && s.below(4) == 0 {
			l[s.below(len(l))] = filled('x', s.below(300000))
		}
		seen[makes(t, "any", s.below(200)-2, l...)]++
	}
	if seen[api.OK] < 80 || seen[api.ErrForm] < 50 || seen[api.ErrRange] < 20 {
		t.Error("too few of a kind:", seen)
	}
}

// R2, R3: what is answered is the caller's, and what stands behind the list's length is left alone.
func TestColumnsAreTheCallers(t *testing.T) {
	all := columns(6, 256)
	kept := slices.Clone(all)
	first, _ := fec.Columns(1, all[1:4]...)
	want := slices.Clone(first)
	second, _ := fec.Columns(1, all[1:4]...)
	clear(first)
	first = append(first[:0], fec.Part{Padding: 99}, fec.Part{Padding: 98})
	if !slices.Equal(second, want) || !slices.Equal(all, kept) || len(want) != 3 || first[0] == want[0] {
		t.Error("written into:", len(want))
	}
	clear(all)
	if third, e := fec.Columns(1, kept[1:4]...); e != api.OK || !slices.Equal(second, want) || !slices.Equal(third, want) {
		t.Error("kept:", e)
	}
}
