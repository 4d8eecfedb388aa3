package mpe_test

import (
	"strconv"
	"strings"
	"testing"

	"clarion/api"
	"clarion/mpe"
)

// The words of this chapter, and of those that it stands on, in whole numbers and with the check sum made bit by bit, so that the package is not held against the layers that it stands on.

// number is that of a bit that tells.
func number(is bool) int {
	if is {
		return 1
	}
	return 0
}

// one is a byte; two is a number of 16 bits as bytes, the high one first; four is one of 32 bits.
func one(n int) string  { return string([]byte{byte(n)}) }
func two(n int) string  { return one(n/256) + one(n%256) }
func four(n int) string { return two(n/65536) + two(n%65536) }

// numberOf is that of bytes, the high one first.
func numberOf(s string) int {
	n := 0
	for k := range len(s) {
		n = n*256 + int(s[k])
	}
	return n
}

// seal is bytes, and their check sum behind them.
func seal(s string) string {
	sum := uint32(0xffffffff)
	for k := range len(s) {
		for bit := 7; bit >= 0; bit-- {
			out, in := sum>>31, uint32(s[k]>>bit&1)
			sum <<= 1
			if out != in {
				sum ^= 0x04c11db7
			}
		}
	}
	return s + four(int(sum))
}

// raw is a section, field by field, be it one of a part or not.
type raw struct {
	table, ext, version, number, last int
	private, later                    bool // later: it is not Now
	body                              string
}

// good is the section of a part to no one, of a body.
func good(body string) raw { return raw{table: 62, body: body} }

// bytes is its bytes.
func (r raw) bytes() string {
	length := len(r.body) + 9
	return seal(one(r.table) + two(0xb000+0x4000*number(r.private)+length) + two(r.ext) + one(0xc0+2*r.version+number(!r.later)) + one(r.number) + one(r.last) + r.body)
}

// again is bytes, all but their last four sealed anew.
func again(s string) string { return seal(s[:len(s)-4]) }

// gramSum is the sum of a datagram's header.
func gramSum(s string) int {
	sum := 0
	for ; s != ""; s = s[2:] {
		sum += numberOf(s[:2])
		if sum >= 65536 {
			sum -= 65535
		}
	}
	return 65535 - sum
}

// gramHead is the bytes of the header and of the whole datagram that s begins with.
func gramHead(s string) (header, length int, e api.Errno) {
	if s == "" {
		return 0, 0, api.ErrShort
	}
	least, known := map[int]int{4: 20, 6: 40}[int(s[0])/16]
	switch {
	case !known:
		return 0, 0, api.ErrKind
	case len(s) < least:
		return 0, 0, api.ErrShort
	case least == 20:
		header, length = int(s[0])%16*4, numberOf(s[2:4])
	default:
		header, length = 40, numberOf(s[4:6])+40
	}
	switch {
	case header < least || length < header:
		return 0, 0, api.ErrForm
	case length > 4080:
		return 0, 0, api.ErrRange
	}
	return header, length, api.OK
}

// slowGram is what datagram.Check must answer.
func slowGram(s string) api.Errno {
	header, length, e := gramHead(s)
	switch {
	case e != api.OK:
		return e
	case len(s) < length:
		return api.ErrShort
	case len(s) > length:
		return api.ErrLong
	case s[0]/16 == 4 && gramSum(s[:header]) != 0:
		return api.ErrSum
	}
	return api.OK
}

// slowTimes is whether times may be.
func slowTimes(x api.Times) bool {
	return x.Delta >= 0 && x.Delta < 4096 && x.At >= 0 && x.At < 262144
}

// slowCheck is what Check must answer.
func slowCheck(p mpe.Part) api.Errno {
	if p.Mac < 0 || p.Mac >= 65536 || !slowTimes(p.Times) {
		return api.ErrRange
	}
	return slowGram(p.Text)
}

// timesBytes is the four bytes of times that may be.
func timesBytes(x api.Times) string {
	return four(((x.Delta*2+number(x.Table))*2+number(x.Frame))*262144 + x.At)
}

// slowBytes is the bytes of a part that may be.
func slowBytes(p mpe.Part) string {
	r := good(timesBytes(p.Times) + p.Text)
	r.ext = p.Mac
	return r.bytes()
}

// slowSection is what section.Decode must answer: an error, or OK.
func slowSection(t string) api.Errno {
	if len(t) < 3 {
		return api.ErrShort
	}
	length := numberOf(t[1:3]) % 4096
	switch {
	case t[1]&0xb0 != 0xb0 || length < 9 || length > 4093:
		return api.ErrForm
	case len(t) < length+3:
		return api.ErrShort
	case len(t) > length+3:
		return api.ErrLong
	case again(t) != t:
		return api.ErrSum
	case t[5]/64 != 3 || t[6] > t[7]:
		return api.ErrForm
	}
	return api.OK
}

// slowDecode is what Decode must answer.
func slowDecode(t string) told {
	e := slowSection(t)
	switch {
	case e != api.OK:
		return told{e: e}
	case t[0] != 62:
		return told{e: api.ErrKind}
	case t[1]/16 != 11 || t[5:8] != "\xc1\x00\x00":
		return told{e: api.ErrForm}
	case len(t) < 16:
		return told{e: api.ErrShort}
	}
	text := t[12 : len(t)-4]
	if e := slowGram(text); e != api.OK {
		return told{e: e}
	}
	n := numberOf(t[8:12])
	x := api.Times{Delta: n / 1048576, Table: n/524288%2 == 1, Frame: n/262144%2 == 1, At: n % 262144}
	return told{p: mpe.Part{Mac: numberOf(t[3:5]), Times: x, Text: text}}
}

// slowWith is what With must answer.
func slowWith(t string, x api.Times) bytesOf {
	d := slowDecode(t)
	switch {
	case d.e != api.OK:
		return bytesOf{e: d.e}
	case !slowTimes(x):
		return bytesOf{e: api.ErrRange}
	}
	return bytesOf{text: again(t[:8] + timesBytes(x) + t[12:])}
}

// bytesOf is what Encode and With answer, to be held against another one at once; told is what Decode does; found is one of All.
type (
	bytesOf struct {
		text string
		e    api.Errno
	}
	told struct {
		p mpe.Part
		e api.Errno
	}
	found struct {
		at int
		p  mpe.Part
	}
)

func encoded(p mpe.Part) bytesOf {
	t, e := mpe.Encode(p)
	return bytesOf{t, e}
}

func decoded(t string) told {
	p, e := mpe.Decode(t)
	return told{p, e}
}

func with(t string, x api.Times) bytesOf {
	s, e := mpe.With(t, x)
	return bytesOf{s, e}
}

// checks holds Check, and Encode, of a part against what they must answer.
func checks(t *testing.T, p mpe.Part, e api.Errno) {
	t.Helper()
	if got := mpe.Check(p); got != e {
		t.Errorf("Check of %s: %v, not %v", short(p), got, e)
	}
	want := bytesOf{e: e}
	if e == api.OK {
		want.text = slowBytes(p)
	}
	if got := encoded(p); got != want {
		t.Errorf("Encode of %s: %d bytes %.20q, %v, not %d, %.20q, %v", short(p), len(got.text), got.text, got.e, len(want.text), want.text, want.e)
	}
}

// short is a part as a text, its datagram as its length.
func short(p mpe.Part) string {
	l := []int{p.Mac, p.Times.Delta, number(p.Times.Table), number(p.Times.Frame), p.Times.At, len(p.Text)}
	var out []string
	for _, n := range l {
		out = append(out, strconv.Itoa(n))
	}
	return strings.Join(out, " ")
}

// put is s with another byte at a place.
func put(s string, at, n int) string { return s[:at] + one(n) + s[at+1:] }

// gram4 is a datagram of version 4, with a header of four times so many bytes (5 at least).
func gram4(words int, body string) string {
	ahead := one(64+words) + "\x00" + two(4*words+len(body)) + "\x12\x34\x40\x00\x40\x11"
	behind := "\x0a\x01\x02\x03\xe0\x04\x05\x06" + strings.Repeat("\x94\x04\x01\x07", words-5)
	return ahead + two(gramSum(ahead+behind)) + behind + body
}

// gram6 is one of version 6.
func gram6(body string) string {
	return "\x6a\xbc\xde\xf0" + two(len(body)) + "\x11\x40" + strings.Repeat("\x20\x01from", 3)[:16] + strings.Repeat("\xff\x02 to ", 3)[:16] + body
}

// noise is numbers that follow no rule to be seen, the same ones at each run.
type noise uint64

func (s *noise) below(n int) int {
	*s = *s*6364136223846793005 + 1442695040888963407
	return int((uint64(*s) ^ uint64(*s)>>29) >> 33 % uint64(n))
}

func (s *noise) text(long int) string {
	b := make([]byte, long)
	for i := range b {
		b[i] = byte(s.below(256))
	}
	return string(b)
}

// gram is any datagram, with a body of fewer bytes than that.
func (s *noise) gram(long int) string {
	body := s.text(s.below(long))
	if s.below(2) == 0 {
		return gram6(body)
	}
	return gram4(5+s.below(11), body)
}

// times is times that may be.
func (s *noise) times() api.Times {
	return api.Times{Delta: s.below(4096), Table: s.below(2) == 1, Frame: s.below(2) == 1, At: s.below(262144)}
}

// part is a part that may be.
func (s *noise) part() mpe.Part {
	return mpe.Part{Mac: s.below(65536), Times: s.times(), Text: s.gram(60)}
}

// allSet is times of which all bits are set.
func allSet() api.Times { return api.Times{Delta: 4095, Table: true, Frame: true, At: 262143} }

// grams is datagrams of both versions: the shortest and the longest ones, with headers of each length, with bodies of many.
func grams() []string {
	s := noise(5)
	out := []string{gram4(5, ""), gram6(""), gram4(5, s.text(4060)), gram4(15, s.text(4020)), gram6(s.text(4040)), gram4(5, s.text(4059)), gram6(s.text(4039))}
	for words := 5; words < 16; words++ {
		out = append(out, gram4(words, ""), gram4(words, s.text(1+s.below(90))))
	}
	for _, long := range []int{1, 2, 3, 4, 19, 20, 183, 187, 188, 215, 216, 235, 236, 239, 240, 1000, 4000} {
		out = append(out, gram4(5, s.text(long)), gram6(s.text(long)))
	}
	return out
}

// noGrams is texts that are none, each with its error.
func noGrams() map[string]api.Errno {
	d, six := gram4(5, "body"), gram6("body")
	long := func(s string, at, n int) string { return put(put(s, at, n/256), at+1, n%256) }
	out := map[string]api.Errno{
		"": api.ErrShort, "x": api.ErrKind, "\x45": api.ErrShort, "\x60": api.ErrShort, "\x00": api.ErrKind, d[:9]: api.ErrShort, d[:19]: api.ErrShort, d[:20]: api.ErrShort,
		d[:len(d)-1]: api.ErrShort, d + "x": api.ErrLong, d + d: api.ErrLong, six[:39]: api.ErrShort, six[:40]: api.ErrShort, six + "\x00": api.ErrLong,
		put(d, 0, 0x55): api.ErrKind, put(six, 0, 0x70): api.ErrKind, put(d, 0, 0x44): api.ErrForm, put(d, 3, 19): api.ErrForm, put(d, 3, 23): api.ErrLong, put(d, 3, 25): api.ErrShort,
		put(d, 8, 3): api.ErrSum, put(d, 19, 0): api.ErrSum, put(six, 5, 3): api.ErrLong, put(six, 5, 5): api.ErrShort,
		long(d, 2, 4081): api.ErrRange, long(six, 4, 4041): api.ErrRange, d[4:]: api.ErrKind,
	}
	for s, e := range out {
		if slowGram(s) != e {
			panic("not this error: " + strconv.Quote(s))
		}
	}
	return out
}

// samples is parts that may be: the least and the greatest ones, and others, with all datagrams.
func samples() []mpe.Part {
	s := noise(9)
	out := []mpe.Part{{Text: gram4(5, "")}, {Mac: 65535, Times: allSet(), Text: gram6(strings.Repeat("\xff", 4040))}}
	for _, d := range grams() {
		out = append(out, mpe.Part{Mac: s.below(65536), Times: s.times(), Text: d})
	}
	for range 60 {
		out = append(out, s.part())
	}
	return out
}
