package datagram_test

import (
	"slices"
	"strings"
	"testing"

	"clarion/api"
	"clarion/datagram"
)

// P7.4: what Make4 and Make6 answer is a datagram, whose Peek tells how it was made, and that has the ends and the body.
func TestMadeIsADatagram(t *testing.T) {
	s := noise(31)
	for range 1500 {
		from, to, proto, body := s.text(16), s.text(16), s.below(256), s.text(s.below(2)*s.below(4041)+s.below(20)*s.below(2))
		body = body[:min(len(body), 4040)]
		four, e := datagram.Make4([4]byte([]byte(from[:4])), [4]byte([]byte(to[:4])), proto, body)
		if e != api.OK || datagram.Check(four) != api.OK || peeked(four) != (told{head: datagram.Head{Version: 4, Header: 20, Length: 20 + len(body), Proto: proto}}) {
			t.Fatalf("version 4: %.20q, %v", four, e)
		}
		if four[12:] != from[:4]+to[:4]+body || datagram.Sum(four[:20]) != 0 {
			t.Fatalf("version 4: %.20q", four)
		}
		six, e := datagram.Make6([16]byte([]byte(from)), [16]byte([]byte(to)), proto, body)
		if e != api.OK || datagram.Check(six) != api.OK || peeked(six) != (told{head: datagram.Head{Version: 6, Header: 40, Length: 40 + len(body), Proto: proto}}) {
			t.Fatalf("version 6: %.40q, %v", six, e)
		}
		if six[8:] != from+to+body {
			t.Fatalf("version 6: %.40q", six)
		}
	}
}

// anyOf is some datagrams of both versions, in any order: those of l, and others that Make4 and Make6 make.
func anyOf(s *noise, l []string) []string {
	out := make([]string, s.below(12))
	for i := range out {
		switch s.below(4) {
		case 0:
			out[i], _ = datagram.Make4(from4, to4, s.below(256), s.text(s.below(300)))
		case 1:
			out[i], _ = datagram.Make6(from6, to6, s.below(256), s.text(s.below(300)))
		default:
			out[i] = l[s.below(len(l))]
		}
	}
	return out
}

// P7.4: Split of Join is the list; Join of Split the text.
func TestSplitOfJoinAndJoinOfSplit(t *testing.T) {
	s, l := noise(33), samples()
	for range 1500 {
		list := anyOf(&s, l)
		text := strings.Join(list, "")
		joins(t, text, api.OK, list...)
		splits(t, text, list, api.OK)
		joined, _ := datagram.Join(list...)
		split, e := datagram.Split(joined)
		if e != api.OK || !slices.Equal(split, list) {
			t.Fatalf("%d datagrams: %d, %v", len(list), len(split), e)
		}
		if again, e := datagram.Join(split...); e != api.OK || again != text {
			t.Fatalf("%d datagrams: %d bytes, %v, not %d", len(list), len(again), e, len(text))
		}
	}
}

// P7.4: a header's bytes of which one is another one are told as what they are: none of version 4 is a datagram.
func TestMadeWithOneOtherByte(t *testing.T) {
	s, _ := datagram.Make4(from4, to4, 17, "odd")
	for at := range 20 {
		for n := range 256 {
			if text := put(s, at, n); n != int(s[at]) && datagram.Check(text) == api.OK {
				t.Errorf("byte %d is %d: a datagram", at, n)
			}
		}
	}
}

// R2: the lists that are handed in, and what stands behind them, are left alone; the list that is answered is the caller's.
func TestListsAreLeftAlone(t *testing.T) {
	l := append(several(), "behind")
	want := slices.Clone(l)
	joins(t, strings.Join(several(), ""), api.OK, l[:len(l)-1]...)
	if !slices.Equal(l, want) {
		t.Errorf("%q", l)
	}
	text := strings.Join(several(), "")
	first, _ := datagram.Split(text)
	for i := range first {
		first[i] = "other"
	}
	splits(t, text, several(), api.OK)
}

// R3: what was asked ahead changes nothing.
func TestAskedAgain(t *testing.T) {
	ask := func() string {
		four, _ := datagram.Make4(from4, to4, 17, "body")
		six, _ := datagram.Make6(from6, to6, 6, "xyz")
		all, _ := datagram.Join(four, six)
		l, e := datagram.Split(all + four)
		return strings.Join(l, "|") + one(int(e)) + two(datagram.Sum("\x01", "\x02\x03")) + one(int(datagram.Check(six+"x")))
	}
	first := ask()
	datagram.Sum("odd")
	datagram.Peek("\x45")
	datagram.Check(good4(5, 1, "x") + "x")
	datagram.Make4(to4, from4, 256, "")
	datagram.Split(good6(17, "body") + "\x00")
	datagram.Join("x")
	if again := ask(); again != first {
		t.Errorf("%q, not %q", again, first)
	}
}
