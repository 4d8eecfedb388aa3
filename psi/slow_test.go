package psi_test

import (
	"slices"
	"strings"
	"testing"

	"clarion/api"
	"clarion/psi"
)

// The words of this chapter, and of those that it stands on, in whole numbers and with the check sum made bit by bit, so that the package is not held against the layers that it stands on.

// one is a byte; two is a number of 16 bits as bytes, the high one first; four is one of 32 bits.
func one(n int) string  { return string([]byte{byte(n)}) }
func two(n int) string  { return one(n/256) + one(n%256) }
func four(n int) string { return two(n/65536) + two(n%65536) }

// valueOf is the number of bytes, the high one first.
func valueOf(s string) int {
	n := 0
	for k := range len(s) {
		n = n*256 + int(s[k])
	}
	return n
}

// bit is that of what is, or is not.
func bit(is bool) int {
	if is {
		return 1
	}
	return 0
}

// seal is bytes, and their check sum behind them.
func seal(s string) string {
	sum := uint32(0xffffffff)
	for k := range len(s) {
		for at := 7; at >= 0; at-- {
			out, in := sum>>31, uint32(s[k]>>at&1)
			sum <<= 1
			if out != in {
				sum ^= 0x04c11db7
			}
		}
	}
	return s + four(int(sum))
}

// again is bytes, all but their last four sealed anew.
func again(s string) string { return seal(s[:len(s)-4]) }

// put is s with another byte at a place.
func put(s string, at, n int) string { return s[:at] + one(n) + s[at+1:] }

// raw is a section, field by field, be it one of a table that may be or not.
type raw struct {
	table, ext, version, number, last int
	private, now                      bool
	body                              string
}

// bytes is its bytes.
func (r raw) bytes() string {
	length := len(r.body) + 9
	return seal(one(r.table) + two(0xb000+0x4000*bit(r.private)+length) + two(r.ext) + one(0xc0+2*r.version+bit(r.now)) + one(r.number) + one(r.last) + r.body)
}

// out tells whether a number is not from 0 to below many.
func out(n, many int) bool { return n < 0 || n >= many }

// double tells whether two of a list are the same: each one is held against each one behind it.
func double(l []int) bool {
	for k, n := range l {
		if slices.Contains(l[k+1:], n) {
			return true
		}
	}
	return false
}

// numbers and pids are what no two of a table may have the same.
func numbers(x psi.Pat) []int {
	var l []int
	for _, p := range x.Programs {
		l = append(l, p.Number)
	}
	return l
}

func pids(x psi.Pmt) []int {
	var l []int
	for _, s := range x.Streams {
		l = append(l, s.Pid)
	}
	return l
}

// slowPat is what EncodePat must answer.
func slowPat(x psi.Pat) (string, api.Errno) {
	wrong := out(x.Stream, 65536) || out(x.Version, 32)
	body := ""
	for _, p := range x.Programs {
		if out(p.Number, 65536) || out(p.Pid, 8192) {
			wrong = true
			continue
		}
		body += two(p.Number) + two(p.Pid+57344)
	}
	return sealed(wrong, double(numbers(x)), raw{table: 0, ext: x.Stream, version: x.Version, now: true, body: body})
}

// slowPmt is what EncodePmt must answer. An Info of more bytes than its length can tell is one that has no room, whatever length is written.
func slowPmt(x psi.Pmt) (string, api.Errno) {
	wrong := out(x.Program, 65536) || out(x.Version, 32) || out(x.Clock, 8192)
	body := ""
	if !wrong {
		body = two(x.Clock+57344) + two((len(x.Info)+61440)%65536) + x.Info
	}
	for _, s := range x.Streams {
		if out(s.Kind, 256) || out(s.Pid, 8192) {
			wrong = true
			continue
		}
		body += one(s.Kind) + two(s.Pid+57344) + two((len(s.Info)+61440)%65536) + s.Info
	}
	return sealed(wrong, double(pids(x)), raw{table: 2, ext: x.Program, version: x.Version, now: true, body: body})
}

// sealed is a section, or what is wrong, the first one named.
func sealed(wrong, twice bool, r raw) (string, api.Errno) {
	switch {
	case wrong:
		return "", api.ErrRange
	case twice:
		return "", api.ErrForm
	case len(r.body)+12 > 1024:
		return "", api.ErrFull
	}
	return r.bytes(), api.OK
}

// slowSection is what section.Decode must answer: an error, or OK; then what a table's number and its greatest section ask.
func slowSection(t string, table int) api.Errno {
	if len(t) < 3 {
		return api.ErrShort
	}
	length := valueOf(t[1:3]) % 4096
	switch {
	case t[1]&0xb0 != 0xb0 || length < 9 || length > 4093:
		return api.ErrForm
	case len(t) < length+3:
		return api.ErrShort
	case len(t) > length+3:
		return api.ErrLong
	case again(t) != t:
		return api.ErrSum
	case t[5]/64 != 3 || t[6] > t[7]:
		return api.ErrForm
	case int(t[0]) != table:
		return api.ErrKind
	case len(t) > 1024:
		return api.ErrFull
	}
	return api.OK
}

// slowHead tells whether a section's bytes ahead of its body are as they must be.
func slowHead(t string) bool { return t[1]/64 == 2 && t[5]%2 == 1 && t[6] == 0 && t[7] == 0 }

// slowDecodePat is what DecodePat must answer.
func slowDecodePat(t string) (psi.Pat, api.Errno) {
	if e := slowSection(t, 0); e != api.OK {
		return psi.Pat{}, e
	}
	body := t[8 : len(t)-4]
	if len(body)%4 != 0 {
		return psi.Pat{}, api.ErrShort
	}
	good := slowHead(t)
	x := psi.Pat{Stream: valueOf(t[3:5]), Version: int(t[5]) / 2 % 32}
	for at := 0; at < len(body); at += 4 {
		pid := valueOf(body[at+2 : at+4])
		good = good && pid >= 57344
		x.Programs = append(x.Programs, psi.Program{Number: valueOf(body[at : at+2]), Pid: pid % 8192})
	}
	if !good || double(numbers(x)) {
		return psi.Pat{}, api.ErrForm
	}
	return x, api.OK
}

// slowDecodePmt is what DecodePmt must answer.
func slowDecodePmt(t string) (psi.Pmt, api.Errno) {
	if e := slowSection(t, 2); e != api.OK {
		return psi.Pmt{}, e
	}
	good := slowHead(t)
	x := psi.Pmt{Program: valueOf(t[3:5]), Version: int(t[5]) / 2 % 32}
	end, at := len(t)-4, 8
	for at == 8 || at < end {
		var s psi.Stream
		if at > 8 {
			s.Kind = int(t[at])
			at++
		}
		if at+4 > end {
			return psi.Pmt{}, api.ErrShort
		}
		pid, size := valueOf(t[at:at+2]), valueOf(t[at+2:at+4])
		if at += 4 + size%4096; at > end {
			return psi.Pmt{}, api.ErrShort
		}
		good = good && pid >= 57344 && size >= 61440
		s.Pid, s.Info = pid%8192, t[at-size%4096:at]
		if x.Streams = append(x.Streams, s); len(x.Streams) == 1 {
			x.Clock, x.Info = s.Pid, s.Info
		}
	}
	x.Streams = x.Streams[1:] // what is told of the clock is told as of a stream
	if !good || double(pids(x)) {
		return psi.Pmt{}, api.ErrForm
	}
	return x, api.OK
}

// way is both calls of a table, and what they must answer.
type way[T any] struct {
	encode, slowEncode func(T) (string, api.Errno)
	decode, slowDecode func(string) (T, api.Errno)
	same               func(a, b T) bool
	copied             func(T) T
}

// pats is that of Pats, pmts that of Pmts.
func pats() way[psi.Pat] {
	return way[psi.Pat]{psi.EncodePat, slowPat, psi.DecodePat, slowDecodePat,
		func(a, b psi.Pat) bool {
			return a.Stream == b.Stream && a.Version == b.Version && slices.Equal(a.Programs, b.Programs)
		},
		func(x psi.Pat) psi.Pat {
			x.Programs = slices.Clone(x.Programs)
			return x
		}}
}

func pmts() way[psi.Pmt] {
	return way[psi.Pmt]{psi.EncodePmt, slowPmt, psi.DecodePmt, slowDecodePmt,
		func(a, b psi.Pmt) bool {
			return a.Program == b.Program && a.Version == b.Version && a.Clock == b.Clock && a.Info == b.Info && slices.Equal(a.Streams, b.Streams)
		},
		func(x psi.Pmt) psi.Pmt {
			x.Streams = slices.Clone(x.Streams)
			return x
		}}
}

// encodes holds Encode against the words, whose error must be the one that is told; what is handed in stays as it was (R2), and nothing is answered beside an error (R1).
func (w way[T]) encodes(t *testing.T, name string, x T, e api.Errno) {
	t.Helper()
	kept := w.copied(x)
	want, f := w.slowEncode(x)
	if f != e {
		t.Fatalf("%s: by the words %v, not %v", name, f, e)
	}
	if got, f := w.encode(x); got != want || f != e {
		t.Errorf("%s: %d bytes %.40q, %v, not %d, %.40q, %v", name, len(got), got, f, len(want), want, e)
	}
	if !w.same(x, kept) {
		t.Errorf("%s: what is handed in is another one: %v", name, x)
	}
}

// decodes holds Decode, and the words, against what is told.
func (w way[T]) decodes(t *testing.T, name, text string, want T, e api.Errno) {
	t.Helper()
	if got, f := w.slowDecode(text); !w.same(got, want) || f != e {
		t.Fatalf("%s, %d bytes %.40q: by the words %v, %v, not %v, %v", name, len(text), text, got, f, want, e)
	}
	if got, f := w.decode(text); !w.same(got, want) || f != e {
		t.Errorf("%s, %d bytes %.40q: %v, %v, not %v, %v", name, len(text), text, got, f, want, e)
	}
}

// fails holds Decode against an error, beside which there is nothing (R1).
func (w way[T]) fails(t *testing.T, name, text string, e api.Errno) {
	t.Helper()
	var none T
	w.decodes(t, name, text, none, e)
}

// reads holds Decode against the words, and tells what they are.
func (w way[T]) reads(t *testing.T, name, text string) api.Errno {
	t.Helper()
	want, e := w.slowDecode(text)
	w.decodes(t, name, text, want, e)
	return e
}

// noise is numbers that follow no rule to be seen, the same ones at each run.
type noise uint64

func (s *noise) below(n int) int {
	*s = *s*6364136223846793005 + 1442695040888963407
	return int((uint64(*s) ^ uint64(*s)>>29) >> 33 % uint64(n))
}

func (s *noise) text(long int) string {
	b := make([]byte, long)
	for i := range b {
		b[i] = byte(s.below(256))
	}
	return string(b)
}

// apart is numbers below an end, none of them twice, in any order.
func (s *noise) apart(many, end int) []int {
	var l []int
	for len(l) < many {
		if n := s.below(end); !slices.Contains(l, n) {
			l = append(l, n)
		}
	}
	return l
}

// pat is a Pat that may be, pmt a Pmt.
func (s *noise) pat(many int) psi.Pat {
	x := psi.Pat{Stream: s.below(65536), Version: s.below(32)}
	for _, n := range s.apart(many, 65536) {
		x.Programs = append(x.Programs, psi.Program{Number: n, Pid: s.below(8192)})
	}
	return x
}

func (s *noise) pmt(many int) psi.Pmt {
	x := psi.Pmt{Program: s.below(65536), Version: s.below(32), Clock: s.below(8192), Info: s.text(s.below(30))}
	for _, n := range s.apart(many, 8192) {
		x.Streams = append(x.Streams, psi.Stream{Kind: s.below(256), Pid: n, Info: s.text(s.below(2) * s.below(30))})
	}
	return x
}

// outside is numbers that are not from 0 to last; cut to fewer bits, some would be.
func outside(last int) []int {
	return []int{-1, -2, -last, -last - 1, -last - 2, last + 1, last + 2, 2*last + 2, 1<<16 + last + 1, 1 << 32, 1<<32 + 1, -1 << 32, -1 << 63, -1<<63 + 1, 1<<63 - 1}
}

// dots is an Info of so many bytes.
func dots(long int) string { return strings.Repeat(".", long) }

// programs is so many programs, with the Numbers from 0 on; streams so many streams, with the Pids from 0 on, and no Infos.
func programs(many int) []psi.Program {
	l := make([]psi.Program, many)
	for n := range l {
		l[n] = psi.Program{Number: n, Pid: 8191 - n%8192}
	}
	return l
}

func streams(many int) []psi.Stream {
	l := make([]psi.Stream, many)
	for n := range l {
		l[n] = psi.Stream{Kind: 255 - n%256, Pid: n}
	}
	return l
}
