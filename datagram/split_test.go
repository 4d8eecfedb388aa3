package datagram_test

import (
	"slices"
	"strings"
	"testing"

	"clarion/api"
	"clarion/datagram"
)

// splits holds Split of a text against what it must answer.
func splits(t *testing.T, s string, want []string, e api.Errno) {
	t.Helper()
	if l, got := datagram.Split(s); got != e || !slices.Equal(l, want) {
		t.Fatalf("%d bytes %.40q: %d datagrams, %v, not %d, %v", len(s), s, len(l), got, len(want), e)
	}
}

// joins holds Join of a list against what it must answer.
func joins(t *testing.T, want string, e api.Errno, l ...string) {
	t.Helper()
	if s, got := datagram.Join(l...); got != e || s != want {
		t.Fatalf("%.100q: %d bytes, %v, not %d, %v", l, len(s), got, len(want), e)
	}
}

// several is some datagrams of both versions.
func several() []string {
	return []string{good4(5, 17, "body"), good6(17, ""), good4(15, 6, ""), good6(58, "another body"), good4(5, 17, ""), good4(5, 17, "")}
}

// P7.3: no byte, and one datagram.
func TestSplitOfOne(t *testing.T) {
	splits(t, "", nil, api.OK)
	for _, s := range samples() {
		splits(t, s, []string{s}, api.OK)
	}
}

// P7.3: several of both versions.
func TestSplitOfSeveral(t *testing.T) {
	for n := range len(several()) + 1 {
		splits(t, strings.Join(several()[:n], ""), several()[:n], api.OK)
	}
	splits(t, strings.Join(samples(), ""), samples(), api.OK)
	splits(t, strings.Repeat(good4(5, 0, ""), 3000), slices.Repeat([]string{good4(5, 0, "")}, 3000), api.OK)
}

// P7.3: cut at each place: between two datagrams those ahead, in one ErrShort, and nothing (R1).
func TestSplitOfOneCut(t *testing.T) {
	all := strings.Join(several(), "")
	ends := map[int]int{0: 0}
	at := 0
	for n, s := range several() {
		at += len(s)
		ends[at] = n + 1
	}
	for long := range len(all) + 1 {
		if n, whole := ends[long]; whole {
			splits(t, all[:long], several()[:n], api.OK)
		} else {
			splits(t, all[:long], nil, api.ErrShort)
		}
	}
}

// P7.3: bytes behind the last one: Check's error of what is left.
func TestSplitOfBytesBehind(t *testing.T) {
	short := good4(5, 17, "body")
	for behind, want := range map[string]api.Errno{
		"\x00": api.ErrKind, "\x00" + short: api.ErrKind, "x": api.ErrKind, "E": api.ErrShort, "\x60": api.ErrShort, short[:19]: api.ErrShort, short[:20]: api.ErrShort, short[:23]: api.ErrShort,
		put(short, 0, 0x44): api.ErrForm, head4(5, 19, 0): api.ErrForm, head4(5, 4081, 0): api.ErrRange, head6(4041, 0): api.ErrRange,
		put(short, 9, 18): api.ErrSum, put(short, 9, 18) + "\x00": api.ErrSum, put(short, 9, 18)[:23]: api.ErrShort, put(short, 9, 18) + short: api.ErrSum,
	} {
		for n := range 4 {
			splits(t, strings.Join(several()[:n], "")+behind, nil, want)
		}
	}
}

// P7.3: the first one that is none is what is told, whatever else is wrong behind it.
func TestSplitOfSeveralWrong(t *testing.T) {
	good, sum, form, kind := good4(5, 17, "body"), put(good4(5, 17, "body"), 12, 99), head4(5, 19, 0), "\x10"
	splits(t, good+sum+form+kind, nil, api.ErrSum)
	splits(t, good+form+sum+kind, nil, api.ErrForm)
	splits(t, good+kind+sum+form, nil, api.ErrKind)
	splits(t, sum+good+good, nil, api.ErrSum)
	splits(t, good+head4(5, 4081, 0)+strings.Repeat(good, 300), nil, api.ErrRange)
}

// P7.3: any bytes, and datagrams of which one byte is another one, by the words.
func TestSplitOfAnyBytes(t *testing.T) {
	s := noise(21)
	wrong := 0
	for range 3000 {
		l := several()[:1+s.below(6)]
		text := strings.Join(l, "")
		text = put(text, s.below(len(text)), s.below(256)) + s.text(s.below(2)*s.below(50))
		want, e := slowSplit(text)
		splits(t, text, want, e)
		if e != api.OK {
			wrong++
		}
	}
	if wrong < 1000 || wrong > 2900 {
		t.Error("too few of a kind:", wrong)
	}
}

// P7.3: no part, a nil list, and several.
func TestJoin(t *testing.T) {
	joins(t, "", api.OK)
	joins(t, "", api.OK, []string{}...)
	for _, s := range samples() {
		joins(t, s, api.OK, s)
	}
	for n := range len(several()) + 1 {
		joins(t, strings.Join(several()[:n], ""), api.OK, several()[:n]...)
	}
	joins(t, strings.Join(samples(), ""), api.OK, samples()...)
}

// wrongs is texts that are no datagrams, with Check's error of each.
func wrongs() map[string]api.Errno {
	s := good4(5, 17, "body")
	return map[string]api.Errno{
		"": api.ErrShort, "E": api.ErrShort, s[:23]: api.ErrShort, s + "x": api.ErrLong, s + s: api.ErrLong, "x": api.ErrKind,
		put(s, 0, 0x44): api.ErrForm, head4(5, 4081, 0): api.ErrRange, put(s, 9, 18): api.ErrSum, good6(17, "") + "x": api.ErrLong,
	}
}

// P7.3: one part is none: at each place; nothing is answered (R1).
func TestJoinOfOneThatIsNone(t *testing.T) {
	for text, e := range wrongs() {
		for at := range len(several()) + 1 {
			joins(t, "", e, slices.Insert(several(), at, text)...)
		}
		joins(t, "", e, text)
	}
}

// P7.3: two parts are none: the error is the first one's.
func TestJoinOfTwoThatAreNone(t *testing.T) {
	for first, e := range wrongs() {
		for second := range wrongs() {
			joins(t, "", e, first, second)
			joins(t, "", e, good6(17, ""), first, good4(5, 17, ""), second, good4(5, 17, ""))
		}
	}
}

// P7.3: parts that are a datagram together are none each.
func TestJoinOfHalves(t *testing.T) {
	s := good4(5, 17, "body")
	joins(t, "", api.ErrShort, s[:22], s[22:])
	joins(t, "", api.ErrKind, s, "\x00", s)
}
