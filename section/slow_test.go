package section_test

import (
	"strconv"
	"strings"
	"testing"

	"clarion/api"
	"clarion/section"
)

// The chapter's own words, with a text of the signs 0 and 1 for bits and the check sum made bit by bit, so that the package is not held against the layers that it stands on.

// signs is a number of n bits, the highest one first.
func signs(x, n int) string {
	all := strings.Repeat("0", n) + strconv.FormatInt(int64(x), 2)
	return all[len(all)-n:]
}

// sign is a bit that tells.
func sign(is bool) string {
	if is {
		return "1"
	}
	return "0"
}

// number is that of the signs, the highest one first.
func number(signs string) int {
	x, _ := strconv.ParseInt(signs, 2, 64)
	return int(x)
}

// packed is the signs as bytes.
func packed(signs string) string {
	var all strings.Builder
	for ; signs != ""; signs = signs[8:] {
		all.WriteByte(byte(number(signs[:8])))
	}
	return all.String()
}

// signsOf is all bits of all bytes.
func signsOf(s string) string {
	var all strings.Builder
	for k := range len(s) {
		all.WriteString(signs(int(s[k]), 8))
	}
	return all.String()
}

// slowSum is the check sum.
func slowSum(s string) uint32 {
	sum := uint32(0xffffffff)
	for k := range len(s) {
		for bit := 7; bit >= 0; bit-- {
			out, in := sum>>31, uint32(s[k]>>bit&1)
			sum <<= 1
			if out != in {
				sum ^= 0x04c11db7
			}
		}
	}
	return sum
}

// seal is bytes, and their check sum behind them.
func seal(s string) string { return s + packed(signs(int(slowSum(s)), 32)) }

// again is bytes, all but their last four sealed anew.
func again(s string) string { return seal(s[:len(s)-4]) }

// head is the 8 bytes ahead of the body, the bits that are to be 1 and the length being any.
func head(s section.Section, marks string, length int, two string) string {
	return packed(signs(s.Table, 8) + marks[:1] + sign(s.Private) + marks[1:] + signs(length, 12) + signs(s.Ext, 16) + two + signs(s.Version, 5) + sign(s.Now) + signs(s.Number, 8) + signs(s.Last, 8))
}

// slowBytes is the bytes of a section that may be.
func slowBytes(s section.Section) string {
	return seal(head(s, "111", len(s.Body)+9, "11") + s.Body)
}

// slowCheck is what Check must answer.
func slowCheck(s section.Section) api.Errno {
	for _, f := range [][2]int{{s.Table, 256}, {s.Ext, 65536}, {s.Version, 32}, {s.Last, 256}, {s.Number, 256}} {
		if f[0] < 0 || f[0] >= f[1] {
			return api.ErrRange
		}
	}
	if s.Last < s.Number {
		return api.ErrRange
	}
	if len(s.Body) >= 4085 {
		return api.ErrFull
	}
	return api.OK
}

// bytesOf is what Encode and Need answer, to be held against another one at once.
type bytesOf struct {
	text string
	n    int
	e    api.Errno
}

func encoded(s section.Section) bytesOf {
	t, e := section.Encode(s)
	return bytesOf{text: t, e: e}
}

func needed(t string) bytesOf {
	n, e := section.Need(t)
	return bytesOf{n: n, e: e}
}

// slowNeed is what Need must answer.
func slowNeed(t string) bytesOf {
	if len(t) <= 2 {
		return bytesOf{e: api.ErrShort}
	}
	bits := signsOf(t[1:3])
	length := number(bits[4:])
	if bits[0] == '0' || bits[2:4] != "11" || length <= 8 || length >= 4094 {
		return bytesOf{e: api.ErrForm}
	}
	return bytesOf{n: length + 3}
}

// told is what Decode answers.
type told struct {
	s section.Section
	e api.Errno
}

func decoded(t string) told {
	s, e := section.Decode(t)
	return told{s, e}
}

// slowDecode is what Decode must answer.
func slowDecode(t string) told {
	need := slowNeed(t)
	switch {
	case need.e != api.OK:
		return told{e: need.e}
	case len(t) < need.n:
		return told{e: api.ErrShort}
	case len(t) > need.n:
		return told{e: api.ErrLong}
	case seal(t[:len(t)-4]) != t:
		return told{e: api.ErrSum}
	}
	bits := signsOf(t[:8])
	s := section.Section{
		Table: number(bits[:8]), Private: bits[9] == '1', Ext: number(bits[24:40]), Version: number(bits[42:47]), Now: bits[47] == '1',
		Number: number(bits[48:56]), Last: number(bits[56:64]), Body: t[8 : len(t)-4],
	}
	if bits[40:42] != "11" || s.Number > s.Last {
		return told{e: api.ErrForm}
	}
	return told{s: s}
}

// checks holds Check, and Encode, of a section against what they must answer.
func checks(t *testing.T, s section.Section, e api.Errno) {
	t.Helper()
	if got := section.Check(s); got != e {
		t.Errorf("Check of %s: %v, not %v", short(s), got, e)
	}
	want := bytesOf{e: e}
	if e == api.OK {
		want.text = slowBytes(s)
	}
	if got := encoded(s); got != want {
		t.Errorf("Encode of %s: %d bytes %.20q, %v, not %d, %.20q, %v", short(s), len(got.text), got.text, got.e, len(want.text), want.text, want.e)
	}
}

// short is a section as a text, its body as its length.
func short(s section.Section) string {
	return strings.Join([]string{
		strconv.Itoa(s.Table), sign(s.Private), strconv.Itoa(s.Ext), strconv.Itoa(s.Version), sign(s.Now), strconv.Itoa(s.Number), strconv.Itoa(s.Last), strconv.Itoa(len(s.Body)),
	}, " ")
}

// put is s with another byte at a place.
func put(s string, at, n int) string { return s[:at] + string([]byte{byte(n)}) + s[at+1:] }

// noise is numbers that follow no rule to be seen, the same ones at each run.
type noise uint64

func (s *noise) below(n int) int {
	*s = *s*6364136223846793005 + 1442695040888963407
	return int((uint64(*s) ^ uint64(*s)>>29) >> 33 % uint64(n))
}

func (s *noise) text(long int) string {
	b := make([]byte, long)
	for i := range b {
		b[i] = byte(s.below(256))
	}
	return string(b)
}

// any is a section that may be.
func (s *noise) any() section.Section {
	out := section.Section{
		Table: s.below(256), Private: s.below(2) == 1, Ext: s.below(65536), Version: s.below(32), Now: s.below(2) == 1,
		Last: s.below(256), Body: s.text(s.below(60)),
	}
	out.Number = s.below(out.Last + 1)
	return out
}

// samples is sections that may be: the least and the greatest ones, and others, with bodies of many lengths.
func samples() []section.Section {
	s := noise(5)
	out := []section.Section{
		{}, {Private: true}, {Now: true}, {Table: 66, Now: true, Body: "hi"},
		{Table: 255, Private: true, Ext: 65535, Version: 31, Now: true, Number: 255, Last: 255},
		{Table: 255, Private: true, Ext: 65535, Version: 31, Now: true, Number: 255, Last: 255, Body: strings.Repeat("\xff", 4084)},
		{Last: 255}, {Number: 1, Last: 1}, {Body: strings.Repeat("\x00", 4084)}, {Body: "\xe2\x82\xac\xc3\xa9"},
	}
	for _, long := range []int{0, 1, 2, 3, 4, 5, 184, 188, 244, 246, 247, 248, 255, 256, 257, 1012, 1015, 1016, 1017, 4000, 4082, 4083, 4084} {
		one := s.any()
		one.Body = s.text(long)
		out = append(out, one)
	}
	for range 60 {
		out = append(out, s.any())
	}
	return out
}
