package mpe_test

import (
	"slices"
	"testing"

	"clarion/api"
	"clarion/mpe"
)

// all is what All tells of texts, which are left as they were (R2).
func all(t *testing.T, l ...string) []found {
	t.Helper()
	kept := slices.Clone(l)
	var out []found
	for at, p := range mpe.All(l...) {
		out = append(out, found{at, p})
	}
	if !slices.Equal(l, kept) {
		t.Errorf("%d texts have become other ones", len(l))
	}
	return out
}

// finds holds All against what it must tell.
func finds(t *testing.T, name string, want []found, l ...string) {
	t.Helper()
	if got := all(t, l...); !slices.Equal(got, want) {
		t.Errorf("%s: %d of %d, not %d: %+v", name, len(got), len(l), len(want), got)
	}
}

// P10.2: of no texts, and of none that are parts.
func TestAllOfNone(t *testing.T) {
	finds(t, "no texts", nil)
	finds(t, "an empty list", nil, []string{}...)
	finds(t, "no bytes", nil, "")
	var l []string
	for text := range wrong() {
		finds(t, "one that is none", nil, text)
		l = append(l, text)
	}
	finds(t, "all that are none", nil, l...)
}

// P10.2: parts among others, the same one twice, at the beginning and at the end, with their places in the list.
func TestAllOfSome(t *testing.T) {
	a := mpe.Part{Mac: 7, Times: api.Times{Delta: 5, At: 3}, Text: gram4(5, "a")}
	b := mpe.Part{Mac: 65535, Times: allSet(), Text: gram6("b")}
	s, u := slowBytes(a), slowBytes(b)
	finds(t, "one", []found{{0, a}}, s)
	finds(t, "two", []found{{0, a}, {1, b}}, s, u)
	finds(t, "the other way round", []found{{0, b}, {1, a}}, u, s)
	finds(t, "the same one twice", []found{{0, a}, {1, a}}, s, s)
	finds(t, "twice, and another one between", []found{{0, a}, {1, b}, {2, a}}, s, u, s)
	finds(t, "among others", []found{{1, a}, {3, b}, {6, a}}, "x", s, s[1:], u, "", u+"x", s, again(put(s, 0, 0x78)))
	finds(t, "one behind others", []found{{3, b}}, "", "", "x", u)
	finds(t, "other tables", []found{{1, a}}, again(put(s, 0, 0x78)), s, again(put(u, 0, 0x3f)))
}

// mixed is texts of which some are parts, and what All must tell of them.
func mixed(s *noise, many int) ([]string, []found) {
	var l []string
	var want []found
	for n := range many {
		text := s.any()
		if d := slowDecode(text); d.e == api.OK {
			want = append(want, found{n, d.p})
		}
		l = append(l, text)
	}
	return l, want
}

// P10.2: any texts, by the words.
func TestAllOfAny(t *testing.T) {
	s := noise(17)
	many := 0
	for range 100 {
		l, want := mixed(&s, s.below(40))
		finds(t, "any", want, l...)
		many += len(want)
	}
	if many < 300 {
		t.Error("too few:", many)
	}
}

// P10.2: left early, behind each number of parts: what came till then came in order, and going through again begins anew.
func TestAllLeftEarly(t *testing.T) {
	s := noise(19)
	l, want := mixed(&s, 40)
	parts := mpe.All(l...)
	for many := 1; many <= len(want); many++ {
		var got []found
		for at, p := range parts {
			if got = append(got, found{at, p}); len(got) == many {
				break
			}
		}
		if !slices.Equal(got, want[:many]) {
			t.Errorf("%d: %+v", many, got)
		}
	}
	var got []found
	for at, p := range parts {
		got = append(got, found{at, p})
	}
	if !slices.Equal(got, want) {
		t.Errorf("again: %d, not %d", len(got), len(want))
	}
}

// P10.2: nothing is told any more of who has left, by a call that tells so.
func TestAllTellsNoMore(t *testing.T) {
	text := slowBytes(mpe.Part{Text: gram6("")})
	for many := 1; many < 6; many++ {
		n := 0
		mpe.All(text, "x", text, text, text, text)(func(int, mpe.Part) bool {
			n++
			return n < many
		})
		if n != many {
			t.Errorf("%d, not %d", n, many)
		}
	}
}

// R2, R3: the list is not kept: who writes into it turns no part of a call that was ahead.
func TestAllOfAListThatIsWrittenInto(t *testing.T) {
	s := noise(21)
	l, want := mixed(&s, 30)
	parts := mpe.All(l...)
	var got []found
	for at, p := range parts {
		got = append(got, found{at, p})
		clear(l)
	}
	if !slices.Equal(got, want) || len(want) < 3 {
		t.Errorf("%d, not %d", len(got), len(want))
	}
	for at, p := range parts {
		if want[0] != (found{at, p}) {
			t.Errorf("%d: %+v", at, p)
		}
		want = want[1:]
	}
	if len(want) != 0 {
		t.Error("left over:", len(want))
	}
}
