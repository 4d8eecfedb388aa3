package fec_test

import (
	"slices"
	"strconv"
	"strings"
	"testing"

	"clarion/api"
	"clarion/fec"
)

// The words of this chapter, and of those that it stands on, in whole numbers and with the check sum made bit by bit, so that the package is not held against the layers that it stands on.

// number is that of a bit that tells.
func number(is bool) int {
	if is {
		return 1
	}
	return 0
}

// one is a byte; two is a number of 16 bits as bytes, the high one first; four is one of 32 bits.
func one(n int) string  { return string([]byte{byte(n)}) }
func two(n int) string  { return one(n/256) + one(n%256) }
func four(n int) string { return two(n/65536) + two(n%65536) }

// numberOf is that of bytes, the high one first.
func numberOf(s string) int {
	n := 0
	for k := range len(s) {
		n = n*256 + int(s[k])
	}
	return n
}

// seal is bytes, and their check sum behind them.
func seal(s string) string {
	sum := uint32(0xffffffff)
	for k := range len(s) {
		for bit := 7; bit >= 0; bit-- {
			out, in := sum>>31, uint32(s[k]>>bit&1)
			sum <<= 1
			if out != in {
				sum ^= 0x04c11db7
			}
		}
	}
	return s + four(int(sum))
}

// again is bytes, all but their last four sealed anew.
func again(s string) string { return seal(s[:len(s)-4]) }

// put is s with another byte at a place.
func put(s string, at, n int) string { return s[:at] + one(n) + s[at+1:] }

// raw is a section, field by field, be it one of a part or not.
type raw struct {
	table, ext, version, number, last int
	private, now                      bool
	body                              string
}

// good is a section of a part, of a body.
func good(body string) raw {
	return raw{table: 120, ext: 0x05ff, version: 31, number: 1, last: 2, private: true, now: true, body: body}
}

// bytes is its bytes.
func (r raw) bytes() string {
	length := len(r.body) + 9
	return seal(one(r.table) + two(0xb000+0x4000*number(r.private)+length) + two(r.ext) + one(0xc0+2*r.version+number(r.now)) + one(r.number) + one(r.last) + r.body)
}

// slowTimes is whether times may be.
func slowTimes(x api.Times) bool {
	return x.Delta >= 0 && x.Delta < 4096 && x.At >= 0 && x.At < 262144
}

// slowCheck is what Check must answer.
func slowCheck(p fec.Part) api.Errno {
	if p.Padding < 0 || p.Padding >= 192 || p.Last < 0 || p.Last >= 64 || p.Number < 0 || p.Number >= p.Last+1 || !slowTimes(p.Times) {
		return api.ErrRange
	}
	for many := 1; many < 5; many++ {
		if len(p.Text) == many*256 {
			return api.OK
		}
	}
	return api.ErrForm
}

// timesBytes is the four bytes of times that may be.
func timesBytes(x api.Times) string {
	return four(((x.Delta*2+number(x.Table))*2+number(x.Frame))*262144 + x.At)
}

// slowBytes is the bytes of a part that may be.
func slowBytes(p fec.Part) string {
	r := good(timesBytes(p.Times) + p.Text)
	r.ext, r.number, r.last = p.Padding*256+255, p.Number, p.Last
	return r.bytes()
}

// slowSection is what section.Decode must answer: an error, or OK.
func slowSection(t string) api.Errno {
	if len(t) < 3 {
		return api.ErrShort
	}
	length := numberOf(t[1:3]) % 4096
	switch {
	case t[1]&0xb0 != 0xb0 || length < 9 || length > 4093:
		return api.ErrForm
	case len(t) < length+3:
		return api.ErrShort
	case len(t) > length+3:
		return api.ErrLong
	case again(t) != t:
		return api.ErrSum
	case t[5]/64 != 3 || t[6] > t[7]:
		return api.ErrForm
	}
	return api.OK
}

// slowDecode is what Decode must answer.
func slowDecode(t string) told {
	e := slowSection(t)
	switch {
	case e != api.OK:
		return told{e: e}
	case t[0] != 120:
		return told{e: api.ErrKind}
	case t[1]/16 != 15 || t[4] != 255 || t[5] != 255:
		return told{e: api.ErrForm}
	case len(t) < 16:
		return told{e: api.ErrShort}
	}
	n := numberOf(t[8:12])
	x := api.Times{Delta: n / 1048576, Table: n/524288%2 == 1, Frame: n/262144%2 == 1, At: n % 262144}
	p := fec.Part{Padding: int(t[3]), Number: int(t[6]), Last: int(t[7]), Times: x, Text: t[12 : len(t)-4]}
	if e := slowCheck(p); e != api.OK {
		return told{e: e}
	}
	return told{p: p}
}

// slowWith is what With must answer.
func slowWith(t string, x api.Times) bytesOf {
	d := slowDecode(t)
	switch {
	case d.e != api.OK:
		return bytesOf{e: d.e}
	case !slowTimes(x):
		return bytesOf{e: api.ErrRange}
	}
	return bytesOf{text: again(t[:8] + timesBytes(x) + t[12:])}
}

// slowColumns is what Columns must answer.
func slowColumns(padding int, l []string) ([]fec.Part, api.Errno) {
	var out []fec.Part
	for n, text := range l {
		p := fec.Part{Padding: padding, Number: n, Last: len(l) - 1, Text: text}
		for range n {
			p.Times.At += len(text)
		}
		p.Times.Frame = n+1 == len(l)
		if e := slowCheck(p); e != api.OK {
			return nil, e
		}
		out = append(out, p)
	}
	return out, api.OK
}

// bytesOf is what Encode and With answer, to be held against another one at once; told is what Decode does.
type (
	bytesOf struct {
		text string
		e    api.Errno
	}
	told struct {
		p fec.Part
		e api.Errno
	}
)

func encoded(p fec.Part) bytesOf {
	t, e := fec.Encode(p)
	return bytesOf{t, e}
}

func decoded(t string) told {
	p, e := fec.Decode(t)
	return told{p, e}
}

func with(t string, x api.Times) bytesOf {
	s, e := fec.With(t, x)
	return bytesOf{s, e}
}

// checks holds Check, and Encode, of a part against what they must answer.
func checks(t *testing.T, p fec.Part, e api.Errno) {
	t.Helper()
	if got := fec.Check(p); got != e {
		t.Errorf("Check of %s: %v, not %v", short(p), got, e)
	}
	want := bytesOf{e: e}
	if e == api.OK {
		want.text = slowBytes(p)
	}
	if got := encoded(p); got != want {
		t.Errorf("Encode of %s: %d bytes %.20q, %v, not %d, %.20q, %v", short(p), len(got.text), got.text, got.e, len(want.text), want.text, want.e)
	}
}

// tells holds Decode against what it must answer; beside an error nothing is (R1).
func tells(t *testing.T, name, text string, want told) {
	t.Helper()
	if got := decoded(text); got != want {
		t.Errorf("%s, %d bytes %.20q: %s, %v, not %s, %v", name, len(text), text, short(got.p), got.e, short(want.p), want.e)
	}
}

// makes holds Columns against the words; the list is left as it was (R2). It answers what is wrong.
func makes(t *testing.T, name string, padding int, l ...string) api.Errno {
	t.Helper()
	kept := slices.Clone(l)
	got, e := fec.Columns(padding, l...)
	want, f := slowColumns(padding, kept)
	if e != f || !slices.Equal(got, want) {
		t.Errorf("%s, padding %d, %d columns: %d, %v, not %d, %v", name, padding, len(l), len(got), e, len(want), f)
	}
	if !slices.Equal(l, kept) {
		t.Errorf("%s, %d columns have become other ones", name, len(l))
	}
	return f
}

// short is a part as a text, its column as its length.
func short(p fec.Part) string {
	l := []int{p.Padding, p.Number, p.Last, p.Times.Delta, number(p.Times.Table), number(p.Times.Frame), p.Times.At, len(p.Text)}
	var out []string
	for _, n := range l {
		out = append(out, strconv.Itoa(n))
	}
	return strings.Join(out, " ")
}

// noise is numbers that follow no rule to be seen, the same ones at each run.
type noise uint64

func (s *noise) below(n int) int {
	*s = *s*6364136223846793005 + 1442695040888963407
	return int((uint64(*s) ^ uint64(*s)>>29) >> 33 % uint64(n))
}

func (s *noise) text(long int) string {
	b := make([]byte, long)
	for i := range b {
		b[i] = byte(s.below(256))
	}
	return string(b)
}

// column is any column that may be.
func (s *noise) column() string { return s.text(256 + 256*s.below(4)) }

// times is times that may be.
func (s *noise) times() api.Times {
	return api.Times{Delta: s.below(4096), Table: s.below(2) == 1, Frame: s.below(2) == 1, At: s.below(262144)}
}

// part is a part that may be.
func (s *noise) part() fec.Part {
	last := s.below(64)
	return fec.Part{Padding: s.below(192), Number: s.below(last + 1), Last: last, Times: s.times(), Text: s.column()}
}

// allSet is times of which all bits are set.
func allSet() api.Times { return api.Times{Delta: 4095, Table: true, Frame: true, At: 262143} }

// filled is a column of the same byte.
func filled(n, long int) string { return strings.Repeat(one(n), long) }

// longs is how many bytes a column may have.
func longs() []int { return []int{256, 512, 768, 1024} }

// wrongLongs is how many it may not have, those next to the ones that may be ahead.
func wrongLongs() []int {
	return []int{
		255, 257, 511, 513, 767, 769, 1023, 1025, 0, 1, 2, 3, 4, 5, 64, 128, 191, 192, 254, 258, 260, 252, 384, 640, 896, 1020, 1028, 1280, 1536, 2048,
		4076, 4080, 4081, 4084, 4085, 4096, 65536, 65792, 262143, 262144,
	}
}

// samples is parts that may be: the least and the greatest ones, with columns of each length, and others.
func samples() []fec.Part {
	s := noise(9)
	out := []fec.Part{{Text: filled(0, 256)}, {Padding: 191, Number: 63, Last: 63, Times: allSet(), Text: filled(255, 1024)}}
	for _, long := range longs() {
		out = append(out, fec.Part{Text: s.text(long)}, fec.Part{Padding: 9, Number: 3, Last: 5, Times: s.times(), Text: s.text(long)})
	}
	for range 60 {
		out = append(out, s.part())
	}
	return out
}
