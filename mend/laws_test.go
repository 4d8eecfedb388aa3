package mend_test

import (
	"slices"
	"testing"

	"clarion/api"
	"clarion/mend"
)

// P4.2: texts of many distances from words, held against equations that are solved row by row.
func TestWordAgainstEquations(t *testing.T) {
	s := noise(41)
	near, far := 0, 0
	for range 220 {
		n := s.next() % 65
		more := s.next() % (slowRoom(n) + 4)
		at := s.places(min(n+more, 255))
		text := s.turn(s.word(), at[s.next()%(n+1):])
		want, ok := slowWord(text, at[:n])
		got := told(text, at[:n])
		if ok && !got.is(want, differ(text, want)) || !ok && !got.fails(api.ErrMend) {
			t.Fatal(n, more, ok, got.at, int(got.e))
		}
		if ok {
			near++
		} else {
			far++
		}
	}
	if near < 60 || far < 30 {
		t.Error("too few of a kind:", near, far)
	}
}

// P4.2: texts that lie between two words, nearer to this one or to that, or too far from both.
func TestBetweenTwoWords(t *testing.T) {
	s := noise(43)
	for _, n := range []int{0, 1, 2, 7, 30, 61, 62, 63} {
		w, from := s.word(), s.next()%191
		other, lost := xor(w, generator(from)), row(from, n)
		for as := range 66 - n {
			text := []byte(w)
			copy(text[from+n:from+n+as], other[from+n:])
			got := told(string(text), lost)
			switch room := slowRoom(n); {
			case as <= room && !got.is(w, differ(string(text), w)):
				t.Error(n, as, "not the one:", got.at, int(got.e))
			case 65-n-as <= room && !got.is(other, differ(string(text), other)):
				t.Error(n, as, "not the other:", got.at, int(got.e))
			case as > room && 65-n-as > room && !got.fails(api.ErrMend):
				t.Error(n, as, got)
			}
		}
	}
}

// P4.2: whatever is answered to texts without a rule is near, is a word, and the places are those that differ.
func TestWhatIsAnsweredIsNear(t *testing.T) {
	s := noise(45)
	for range 150 {
		// Few places are left to be turned, so that some such texts are near a word.
		lost, text := s.places(60+s.next()%5), s.text(255)
		got := told(text, lost)
		want, ok := slowWord(text, lost)
		if ok != (got.e == api.OK) || ok && !got.is(want, differ(text, want)) || !ok && !got.fails(api.ErrMend) {
			t.Fatal(len(lost), ok, got.at, int(got.e))
		}
	}
}

// P4.3: what is answered is a word, and what it is mended to itself, with the same places lost, with others, and with none.
func TestMendedOnceMore(t *testing.T) {
	s := noise(47)
	for range 40 {
		n := s.next() % 65
		at := s.places(n + slowRoom(n))
		text := s.turn(s.word(), at)
		got := told(text, at[:n])
		if got.e != api.OK || !slowIs(got.word) {
			t.Fatal(n, int(got.e))
		}
		for _, lost := range [][]int{at[:n], nil, s.places(64), s.places(1)} {
			if again := told(got.word, lost); !again.is(got.word, nil) {
				t.Fatal(n, again.at, int(again.e))
			}
		}
		// Data is told of the same word.
		if data, e := mend.Data(text, at[:n]); data != got.word[:191] || e != api.OK {
			t.Fatal(n, int(e))
		}
	}
}

// P4.3, T1: a text and a word, xor-ed, are mended as the text is: nothing hangs on which word it was.
func TestMendingDoesNotHangOnTheWord(t *testing.T) {
	s := noise(49)
	by := s.turn(nulls(255), s.places(32))
	for _, w := range words() {
		if got := told(xor(w, by), nil); !got.is(w, differ(by, nulls(255))) {
			t.Error(got.at, int(got.e))
		}
	}
}

// R2: neither the list nor what stands behind its length is written into, and what is answered is the caller's.
func TestListsAreLeftAlone(t *testing.T) {
	s := noise(51)
	w, all := s.word(), s.places(100)
	text, keep := s.turn(w, all[:20]), slices.Clone(all)
	for range 3 {
		mend.Data(text, all[:10])
		mend.Locator(all[5:30])
		got := told(text, all[:10])
		if !slices.Equal(all, keep) {
			t.Fatal("changed:", all)
		}
		if !got.is(w, differ(text, w)) {
			t.Fatal(got.at, int(got.e))
		}
		clear(got.at[:cap(got.at)])
	}
}

// R3: what was asked ahead changes nothing.
func TestAskedAgain(t *testing.T) {
	s := noise(53)
	w := s.word()
	text, lost := s.turn(w, row(40, 40)), row(40, 20)
	first := told(text, lost)
	locator, _ := mend.Locator(lost)
	mend.Word(s.text(255), nil)
	mend.Word("", row(0, 300))
	mend.Data(w, row(0, 65))
	mend.Locator([]int{1, 1})
	if got := told(text, lost); !first.is(w, row(40, 40)) || !got.is(w, row(40, 40)) {
		t.Error(first.at, got.at)
	}
	if got, e := mend.Locator(lost); got != locator || e != api.OK {
		t.Errorf("%q, %d", got, int(e))
	}
}
