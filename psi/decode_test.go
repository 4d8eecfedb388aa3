package psi_test

import (
	"slices"
	"strconv"
	"strings"
	"testing"

	"clarion/api"
	"clarion/psi"
)

// patBody and pmtBody are bodies that may be; goodPat and goodPmt are what sections of them have, onePat and onePmt what they are read as.
const (
	patBody = "\x00\x05\xe1\x00" + "\x01\x02\xff\xff"
	pmtBody = "\xe1\x02\xf0\x02ab" + "\x0d\xff\xff\xf0\x03xyz" + "\x90\xe0\x00\xf0\x00"
)

func goodPat(body string) raw { return raw{table: 0, ext: 1, version: 3, now: true, body: body} }
func goodPmt(body string) raw { return raw{table: 2, ext: 1, version: 3, now: true, body: body} }

func onePat() psi.Pat {
	return psi.Pat{Stream: 1, Version: 3, Programs: []psi.Program{{Number: 5, Pid: 256}, {Number: 258, Pid: 8191}}}
}

func onePmt() psi.Pmt {
	return psi.Pmt{Program: 1, Version: 3, Clock: 258, Info: "ab", Streams: []psi.Stream{{Kind: 13, Pid: 8191, Info: "xyz"}, {Kind: 144, Pid: 0}}}
}

// bothFail holds both Decodes against an error, of a section with either table's number; beside it there is nothing.
func bothFail(t *testing.T, name string, r raw, e api.Errno) {
	t.Helper()
	r.table = 0
	pats().fails(t, name, r.bytes(), e)
	r.table = 2
	pmts().fails(t, name, r.bytes(), e)
}

// P17.2: by hand, what is there; lists and Infos without elements, too.
func TestDecode(t *testing.T) {
	pats().decodes(t, "programs", goodPat(patBody).bytes(), onePat(), api.OK)
	pats().decodes(t, "no programs", goodPat("").bytes(), psi.Pat{Stream: 1, Version: 3}, api.OK)
	pmts().decodes(t, "streams", goodPmt(pmtBody).bytes(), onePmt(), api.OK)
	pmts().decodes(t, "no streams", goodPmt(pmtBody[:6]).bytes(), psi.Pmt{Program: 1, Version: 3, Clock: 258, Info: "ab"}, api.OK)
	pmts().decodes(t, "no Info", goodPmt("\xff\xff\xf0\x00").bytes(), psi.Pmt{Program: 1, Version: 3, Clock: 8191}, api.OK)
	pmts().decodes(t, "an Info that is as a stream", goodPmt("\xff\xff\xf0\x05\x01\xe0\x01\xf0\x00").bytes(), psi.Pmt{Program: 1, Version: 3, Clock: 8191, Info: "\x01\xe0\x01\xf0\x00"}, api.OK)
	if x, e := psi.DecodePat(goodPat("").bytes()); len(x.Programs) != 0 || e != api.OK {
		t.Error(x, e)
	}
}

// P17.2: each of section.Decode's errors, by name; they are named ahead of another table, of too many bytes, and of what else is wrong (R1).
func TestDecodeOfNoSections(t *testing.T) {
	long := strings.Repeat(patBody, 200)
	for _, r := range []raw{goodPat(patBody), goodPmt(pmtBody), {table: 9, body: "x"}, {table: 255, body: long, last: 5}, goodPat(long), goodPmt(long), goodPat("x"), goodPmt("x")} {
		text := r.bytes()
		both := func(name, text string, e api.Errno) {
			t.Helper()
			pats().fails(t, name, text, e)
			pmts().fails(t, name, text, e)
		}
		for n := range min(len(text), 60) {
			both("fewer", text[:n], api.ErrShort)
			both("fewer", text[:len(text)-1-n], api.ErrShort)
		}
		for _, more := range []string{"\x00", "x", "\xff", text, strings.Repeat("more", 3000)} {
			both("more", text+more, api.ErrLong)
		}
		for _, marks := range []int{0x70, 0xd0, 0xe0, 0xc0, 0x00} {
			both("marks", again(put(text, 1, marks)), api.ErrForm)
		}
		for length, want := range map[int]api.Errno{0: api.ErrForm, 8: api.ErrForm, 9: api.ErrLong, 4093: api.ErrShort, 4094: api.ErrForm, 4095: api.ErrForm} {
			if length != 9 || len(text) > 12 {
				both("length", again(put(put(text, 1, 0xb0+length/256), 2, length%256)), want)
			}
		}
		for at := 3; at < len(text); at += 1 + at/50 {
			both("sum", put(text, at, int(text[at])^0x10), api.ErrSum)
		}
		for _, two := range []int{0x3f, 0x7f, 0xbf, 0x01, 0x41, 0x81} {
			both("two bits", again(put(text, 5, two)), api.ErrForm)
		}
		both("number above last", again(put(text, 6, 6)), api.ErrForm)
		both("number above last", again(put(text, 6, 255)), api.ErrForm)
	}
}

// P17.2: each other table, whatever else is wrong behind it (R1): more bytes than 1024, a body that ends in the middle, and what is not as it must be.
func TestDecodeOfOtherTables(t *testing.T) {
	long := strings.Repeat("\xff\xff\xf0\x00", 254)
	for n := range 256 {
		for _, r := range []raw{goodPat(patBody), goodPmt(pmtBody), goodPat(""), goodPmt("\xff\xff\xf0\x00"), goodPat("x"), goodPmt("x"), goodPat(long), goodPmt(long), goodPat(long + "x"), {private: true, number: 1, last: 2, body: "xxxx"}} {
			r.table = n
			if text := r.bytes(); n != 0 {
				pats().fails(t, "table", text, api.ErrKind)
			}
			if text := r.bytes(); n != 2 {
				pmts().fails(t, "table", text, api.ErrKind)
			}
		}
	}
}

// P17.2: more bytes than 1024, whatever else is wrong behind that (R1); 1024 are not too many.
func TestDecodeOfTooMany(t *testing.T) {
	full := psi.Pat{Stream: 9, Version: 31, Programs: programs(253)}
	text, _ := slowPat(full)
	pats().decodes(t, "1024 bytes", text, full, api.OK)
	for _, more := range []int{3, 1003} {
		x := psi.Pmt{Program: 9, Version: 31, Clock: 5, Info: dots(1003 - more), Streams: []psi.Stream{{Kind: 6, Pid: 7, Info: dots(more)}}}
		text, _ := slowPmt(x)
		if len(text) != 1024 {
			t.Fatal(len(text))
		}
		pmts().decodes(t, "1024 bytes", text, x, api.OK)
	}
	last := psi.Pmt{Program: 9, Version: 31, Info: dots(3), Streams: streams(201)}
	text, _ = slowPmt(last)
	pmts().decodes(t, "1024 bytes", text, last, api.OK)
	for _, long := range []int{1013, 1014, 1015, 1016, 1017, 1020, 2024, 2036, 4083, 4084} {
		var b strings.Builder
		for n := range long/4 + 1 {
			b.WriteString(two(n) + two(57344+n))
		}
		bodies := []string{b.String()[:long], dots(long), strings.Repeat("\x00", long), strings.Repeat("\xff", long)}
		size := long - 4
		bodies = append(bodies, "\xff\xff"+two(61440+size)+dots(size), "\xff\xff"+two(61440+size+1)+dots(size))
		bodies = append(bodies, "\xff\xff\xf0\x00\x01\xe0\x01"+two(61440+size-5)+dots(size-5))
		for _, body := range bodies {
			bothFail(t, strconv.Itoa(long), goodPat(body), api.ErrFull)
			bothFail(t, strconv.Itoa(long), raw{private: true, last: 9, body: body}, api.ErrFull)
		}
	}
}

// bad is heads of sections that are not as they must be, each by one thing, and several.
func bad(r raw) []raw {
	var l []raw
	turn := func(by func(*raw)) {
		x := r
		by(&x)
		l = append(l, x)
	}
	turn(func(r *raw) { r.private = true })
	turn(func(r *raw) { r.now = false })
	for _, n := range []int{1, 2, 128, 255} {
		turn(func(r *raw) { r.last = n })
		turn(func(r *raw) { r.number, r.last = n, n })
		turn(func(r *raw) { r.number, r.last = 1, n })
		turn(func(r *raw) { r.number, r.last, r.private, r.now = n, n, true, false })
	}
	turn(func(r *raw) { r.private, r.now = true, false })
	return l
}

// P17.2: bodies that end in the middle of a program: each length up to that of the greatest section, with marks that may be and others, and with heads that may not be (R1).
func TestDecodeOfAPatThatEndsInTheMiddle(t *testing.T) {
	full, _ := slowPat(psi.Pat{Programs: programs(253)})
	for n := range 1013 {
		e := api.ErrShort
		if n%4 == 0 {
			e = api.OK
		}
		if got := pats().reads(t, "any", goodPat(full[8:8+n]).bytes()); got != e {
			t.Errorf("%d: %v", n, got)
		}
		if n%4 != 0 {
			pats().fails(t, "others", goodPat(strings.Repeat("\x00", n)).bytes(), api.ErrShort)
			pats().fails(t, "others", goodPat(strings.Repeat("\xff", n)).bytes(), api.ErrShort)
		}
	}
	for _, body := range []string{"x", "xy", "xyz", patBody + "\x00", patBody + "\x00\x09\xe0", patBody + patBody[:3], "\x00\x05\x01\x00\x00"} {
		for _, r := range append(bad(goodPat(body)), goodPat(body)) {
			pats().fails(t, "short", r.bytes(), api.ErrShort)
		}
	}
}

// P17.2: bodies that end ahead of a Pmt's first four bytes, in the middle of its Info, of a stream, and of a stream's Info; be the marks, and the head, as they must be or not (R1).
func TestDecodeOfAPmtThatEndsInTheMiddle(t *testing.T) {
	for n := range len(pmtBody) + 1 {
		body := pmtBody[:n]
		// Whole are what has no streams, one, and both.
		if n == 6 || n == 14 || n == 19 {
			if got := pmts().reads(t, "whole", goodPmt(body).bytes()); got != api.OK {
				t.Errorf("%d: %v", n, got)
			}
			continue
		}
		for _, r := range append(bad(goodPmt(body)), goodPmt(body)) {
			pmts().fails(t, strconv.Itoa(n)+" bytes", r.bytes(), api.ErrShort)
			for at := range n {
				if at != 3 && at != 10 && at != 18 {
					r.body = put(body, at, int(body[at])&0x0f)
					pmts().fails(t, "other marks", r.bytes(), api.ErrShort)
				}
			}
		}
	}
	for size := 1; size < 4096; size++ {
		// There is one byte less than is told, or none.
		for _, has := range []int{min(size-1, 1008), 0} {
			for _, marks := range []int{15, 0, size % 16} {
				head := two(marks*4096+size) + dots(has)
				pmts().fails(t, "Info", goodPmt("\xe0\x00"+head).bytes(), api.ErrShort)
				if has < 1000 {
					pmts().fails(t, "a stream's Info", goodPmt("\xe0\x00\xf0\x00\x09\xe0\x01"+head).bytes(), api.ErrShort)
				}
			}
		}
	}
}

// P17.2: sections whose head is not as it must be, be there programs and streams or none.
func TestDecodeOfOtherHeads(t *testing.T) {
	for _, body := range []string{"", patBody, patBody[:4]} {
		for _, r := range bad(goodPat(body)) {
			pats().fails(t, "head", r.bytes(), api.ErrForm)
		}
	}
	for _, body := range []string{pmtBody, pmtBody[:14], "\xe0\x00\xf0\x00"} {
		for _, r := range bad(goodPmt(body)) {
			pmts().fails(t, "head", r.bytes(), api.ErrForm)
		}
	}
	for last := 1; last < 256; last++ {
		for _, n := range []int{0, last / 2, last} {
			r := goodPat(patBody)
			r.number, r.last = n, last
			pats().fails(t, "last", r.bytes(), api.ErrForm)
			r = goodPmt(pmtBody)
			r.number, r.last = n, last
			pmts().fails(t, "last", r.bytes(), api.ErrForm)
		}
	}
}

// P17.2: the three bits ahead of each Pid, and the four ahead of each length, all that they could be; the bits behind them are told.
func TestDecodeOfOtherMarks(t *testing.T) {
	for marks := range 8 {
		for at := 2; at < len(patBody); at += 4 {
			body := put(patBody, at, marks*32+int(patBody[at])%32)
			if e := pats().reads(t, "a program's Pid", goodPat(body).bytes()); (e == api.OK) != (marks == 7) || e != api.OK && e != api.ErrForm {
				t.Errorf("%d: %v", marks, e)
			}
		}
		for _, at := range []int{0, 7, 15} {
			body := put(pmtBody, at, marks*32+int(pmtBody[at])%32)
			if e := pmts().reads(t, "a Pid", goodPmt(body).bytes()); (e == api.OK) != (marks == 7) || e != api.OK && e != api.ErrForm {
				t.Errorf("%d, %d: %v", at, marks, e)
			}
		}
	}
	for marks := range 16 {
		for _, at := range []int{2, 9, 17} {
			body := put(pmtBody, at, marks*16)
			if e := pmts().reads(t, "a length", goodPmt(body).bytes()); (e == api.OK) != (marks == 15) || e != api.OK && e != api.ErrForm {
				t.Errorf("%d, %d: %v", at, marks, e)
			}
		}
	}
	// A length of more than a byte, with other bits ahead of it.
	for marks := range 15 {
		pmts().fails(t, "Info", goodPmt("\xe0\x00"+two(marks*4096+500)+dots(500)).bytes(), api.ErrForm)
		pmts().fails(t, "Info", goodPmt("\xe0\x00\xf0\x00\x01\xe0\x01"+two(marks*4096+500)+dots(500)).bytes(), api.ErrForm)
	}
}

// P17.2: two programs of one Number, and two streams of one Pid, next to one another and apart; ones of which the bits ahead alone are others, too.
func TestDecodeOfWhatIsThereTwice(t *testing.T) {
	for many := 2; many < 7; many++ {
		for b := range many {
			for a := range b {
				var p, s []string
				for k := range many {
					p = append(p, two(500+k)+two(57344+k))
					s = append(s, one(k)+two(57344+500+k)+two(61440+k)+dots(k))
				}
				p[b], s[b] = p[a][:2]+p[b][2:], s[b][:1]+s[a][1:3]+s[b][3:]
				pats().fails(t, "twice", goodPat(strings.Join(p, "")).bytes(), api.ErrForm)
				pmts().fails(t, "twice", goodPmt("\xe0\x05\xf0\x00"+strings.Join(s, "")).bytes(), api.ErrForm)
				pats().fails(t, "twice, and a byte", goodPat(strings.Join(p, "")+"x").bytes(), api.ErrShort)
				pmts().fails(t, "twice, and a byte", goodPmt("\xe0\x05\xf0\x00"+strings.Join(s, "")+"x").bytes(), api.ErrShort)
				p[b], s[b] = p[a], s[a]
				pats().fails(t, "the same", goodPat(strings.Join(p, "")).bytes(), api.ErrForm)
				pmts().fails(t, "the same", goodPmt("\xe0\x05\xf0\x00"+strings.Join(s, "")).bytes(), api.ErrForm)
			}
		}
	}
	pats().decodes(t, "the same Pid", goodPat("\x00\x01\xe0\x09\x00\x02\xe0\x09").bytes(), psi.Pat{Stream: 1, Version: 3, Programs: []psi.Program{{Number: 1, Pid: 9}, {Number: 2, Pid: 9}}}, api.OK)
	pmts().decodes(t, "the same Kind, and the clock's Pid", goodPmt("\xe0\x09\xf0\x00\x01\xe0\x09\xf0\x00\x01\xe0\x08\xf0\x00").bytes(), psi.Pmt{Program: 1, Version: 3, Clock: 9, Streams: []psi.Stream{{Kind: 1, Pid: 9}, {Kind: 1, Pid: 8}}}, api.OK)
}

// P17.2: any bodies at all, of any heads, by the words.
func TestDecodeOfAny(t *testing.T) {
	s := noise(5)
	seen := map[api.Errno]int{}
	for range 6000 {
		r := raw{table: 2 * s.below(2), ext: s.below(65536), version: s.below(32), now: s.below(20) > 0, private: s.below(20) == 0}
		if s.below(20) == 0 {
			r.last = s.below(256)
		}
		for range s.below(6) {
			switch s.below(3) {
			case 0:
				r.body += two(s.below(20)) + two(57344+s.below(8192))
			case 1:
				long := s.below(5)
				r.body += two(57344+s.below(8192)) + two(61440+long) + s.text(long) + one(s.below(256))
			default:
				r.body += s.text(s.below(5))
			}
		}
		text := r.bytes()
		seen[pats().reads(t, "any", text)]++
		seen[pmts().reads(t, "any", text)]++
	}
	for _, e := range []api.Errno{api.OK, api.ErrKind, api.ErrShort, api.ErrForm} {
		if seen[e] < 300 {
			t.Error("too few of a kind:", e, seen[e])
		}
	}
}

// R2: lists that are answered are the caller's: what is written into them, or behind them, turns no other answer.
func TestAnswersAreTheCallers(t *testing.T) {
	s, u := goodPat(patBody).bytes(), goodPmt(pmtBody).bytes()
	x, _ := psi.DecodePat(s)
	y, _ := psi.DecodePmt(u)
	x.Programs[0].Pid, y.Streams[0].Info = 99, "other"
	_ = append(x.Programs[:1], psi.Program{Number: 77})
	_ = append(y.Streams[:1], psi.Stream{Kind: 77})
	pats().decodes(t, "again", s, onePat(), api.OK)
	pmts().decodes(t, "again", u, onePmt(), api.OK)
	if slices.Equal(x.Programs, onePat().Programs) || slices.Equal(y.Streams, onePmt().Streams) {
		t.Error("nothing is written", x, y)
	}
}
