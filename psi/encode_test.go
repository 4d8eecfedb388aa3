package psi_test

import (
	"slices"
	"strconv"
	"testing"

	"clarion/api"
	"clarion/psi"
)

// The calls as the chapter lists them: with another signature this file does not build.
var (
	_ func(psi.Pat) (string, api.Errno)          = psi.EncodePat
	_ func(string) (psi.Pat, api.Errno)          = psi.DecodePat
	_ func(psi.Pmt) (string, api.Errno)          = psi.EncodePmt
	_ func(string) (psi.Pmt, api.Errno)          = psi.DecodePmt
	_ func(psi.Pat, int) (int, api.Errno)        = psi.Pat.Find
	_ func(psi.Pmt, int) (psi.Stream, api.Errno) = psi.Pmt.Find
	_ func(int, int) bool                        = psi.Newer
)

// ends is the numbers next to both ends of what may be, those that may be and those that may not.
func ends(last int) map[int]api.Errno {
	l := map[int]api.Errno{0: api.OK, 1: api.OK, last / 2: api.OK, last - 1: api.OK, last: api.OK}
	for _, n := range outside(last) {
		l[n] = api.ErrRange
	}
	return l
}

// The chapter's example, with the check sum that its twelve bytes have; and the tables' numbers.
func TestExamples(t *testing.T) {
	x := psi.Pat{Stream: 1, Programs: []psi.Program{{Number: 5, Pid: 256}}}
	const want = "\x00\xb0\x0d\x00\x01\xc1\x00\x00\x00\x05\xe1\x00"
	pats().encodes(t, "the example", x, api.OK)
	if s, e := psi.EncodePat(x); s != seal(want) || len(s) != 16 || e != api.OK {
		t.Errorf("%q, %v", s, e)
	}
	pats().decodes(t, "the example", seal(want), x, api.OK)
	if psi.TablePat != 0 || psi.TablePmt != 2 {
		t.Error(psi.TablePat, psi.TablePmt)
	}
}

// P17.1: a Pmt by hand: what its bytes are, one by one.
func TestPmtByHand(t *testing.T) {
	x := psi.Pmt{Program: 0x1234, Version: 21, Clock: 0x0abc, Info: "hello", Streams: []psi.Stream{
		{Kind: 7, Pid: 0x1fff, Info: "\x00\xff"}, {Kind: 255, Pid: 0, Info: ""}, {Kind: 0, Pid: 1, Info: dots(256)},
	}}
	text := "\x02\xb1\x23\x12\x34\xeb\x00\x00" + "\xea\xbc\xf0\x05hello" + "\x07\xff\xff\xf0\x02\x00\xff" + "\xff\xe0\x00\xf0\x00" + "\x00\xe0\x01\xf1\x00" + dots(256)
	pmts().encodes(t, "by hand", x, api.OK)
	if s, e := psi.EncodePmt(x); s != seal(text) || e != api.OK {
		t.Errorf("%q, %v", s, e)
	}
	pmts().decodes(t, "by hand", seal(text), x, api.OK)
}

// P17.1: nothing but numbers, lists without elements, be they nil or not, and Infos of no bytes.
func TestEncodeOfNothing(t *testing.T) {
	for _, x := range []psi.Pat{{}, {Programs: []psi.Program{}}} {
		pats().encodes(t, "no programs", x, api.OK)
		if s, _ := psi.EncodePat(x); s != seal("\x00\xb0\x09\x00\x00\xc1\x00\x00") {
			t.Errorf("%q", s)
		}
	}
	for _, x := range []psi.Pmt{{}, {Streams: []psi.Stream{}}} {
		pmts().encodes(t, "no streams", x, api.OK)
		if s, _ := psi.EncodePmt(x); s != seal("\x02\xb0\x0d\x00\x00\xc1\x00\x00\xe0\x00\xf0\x00") {
			t.Errorf("%q", s)
		}
	}
	x := psi.Pmt{Info: "", Streams: []psi.Stream{{}}}
	pmts().encodes(t, "a stream of nothing", x, api.OK)
	if s, _ := psi.EncodePmt(x); s != seal("\x02\xb0\x12\x00\x00\xc1\x00\x00\xe0\x00\xf0\x00\x00\xe0\x00\xf0\x00") {
		t.Errorf("%q", s)
	}
}

// P17.1: each number of a Pat at its ends, and beyond them; of programs at the first place, in the midst, and at the last one.
func TestNumbersOfAPat(t *testing.T) {
	w := pats()
	for n, e := range ends(65535) {
		w.encodes(t, "Stream "+strconv.Itoa(n), psi.Pat{Stream: n, Version: 1}, e)
		for at := range 3 {
			l := []psi.Program{{Number: 2, Pid: 3}, {Number: 3, Pid: 3}, {Number: 4, Pid: 3}}
			l[at].Number = n
			w.encodes(t, "Number "+strconv.Itoa(n), psi.Pat{Stream: 1, Programs: l}, e)
		}
	}
	for n, e := range ends(31) {
		w.encodes(t, "Version "+strconv.Itoa(n), psi.Pat{Stream: 5, Version: n, Programs: programs(1)}, e)
	}
	for n, e := range ends(8191) {
		for at := range 3 {
			l := programs(3)
			l[at].Pid = n
			w.encodes(t, "Pid "+strconv.Itoa(n), psi.Pat{Stream: 1, Programs: l}, e)
		}
	}
}

// P17.1: each number of a Pmt at its ends, and beyond them.
func TestNumbersOfAPmt(t *testing.T) {
	w := pmts()
	for n, e := range ends(65535) {
		w.encodes(t, "Program "+strconv.Itoa(n), psi.Pmt{Program: n, Info: "x", Streams: streams(2)}, e)
	}
	for n, e := range ends(31) {
		w.encodes(t, "Version "+strconv.Itoa(n), psi.Pmt{Program: 5, Version: n, Streams: streams(1)}, e)
	}
	for n, e := range ends(8191) {
		w.encodes(t, "Clock "+strconv.Itoa(n), psi.Pmt{Program: 5, Clock: n, Info: "x"}, e)
		for at := range 3 {
			l := []psi.Stream{{Pid: 2, Info: "a"}, {Pid: 3, Info: "b"}, {Pid: 4, Info: "c"}}
			l[at].Pid = n
			w.encodes(t, "Pid "+strconv.Itoa(n), psi.Pmt{Clock: 2, Streams: l}, e)
		}
	}
	for n, e := range ends(255) {
		for at := range 3 {
			l := streams(3)
			l[at].Kind = n
			w.encodes(t, "Kind "+strconv.Itoa(n), psi.Pmt{Clock: 2, Streams: l}, e)
		}
	}
}

// P17.1, P17.2: each number that may be, there and back.
func TestEachNumber(t *testing.T) {
	for n := range 65536 {
		x := psi.Pat{Stream: n, Version: n % 32, Programs: []psi.Program{{Number: 65535 - n, Pid: n % 8192}}}
		y := psi.Pmt{Program: 65535 - n, Version: 31 - n%32, Clock: n % 8192, Streams: []psi.Stream{{Kind: n / 8 % 256, Pid: 8191 - n%8192}}}
		s, _ := slowPat(x)
		u, _ := slowPmt(y)
		if got, e := psi.EncodePat(x); got != s || e != api.OK {
			t.Fatalf("%v: %q, %v, not %q", x, got, e, s)
		}
		if got, e := psi.EncodePmt(y); got != u || e != api.OK {
			t.Fatalf("%v: %q, %v, not %q", y, got, e, u)
		}
		if got, e := psi.DecodePat(s); !pats().same(got, x) || e != api.OK {
			t.Fatalf("%q: %v, %v, not %v", s, got, e, x)
		}
		if got, e := psi.DecodePmt(u); !pmts().same(got, y) || e != api.OK {
			t.Fatalf("%q: %v, %v, not %v", u, got, e, y)
		}
	}
}

// P17.1: two programs of one Number, next to one another and apart, of the same Pid and of others; the same Pid alone is no fault.
func TestTwoPrograms(t *testing.T) {
	w := pats()
	for many := 2; many < 7; many++ {
		for b := range many {
			for a := range b {
				for _, n := range []int{0, 1, 77, 65535} {
					l := programs(many)
					for k := range l {
						l[k].Number += 500
					}
					l[a].Number, l[b].Number = n, n
					w.encodes(t, "the same Number", psi.Pat{Programs: l}, api.ErrForm)
					l[a].Pid, l[b].Pid = 9, 9
					w.encodes(t, "the same Number and Pid", psi.Pat{Programs: l}, api.ErrForm)
					l[a].Number++
					if n == 65535 {
						l[a].Number = 0
					}
					w.encodes(t, "the same Pid", psi.Pat{Programs: l}, api.OK)
				}
			}
		}
	}
	w.encodes(t, "three", psi.Pat{Programs: []psi.Program{{Number: 4}, {Number: 4, Pid: 1}, {Number: 4, Pid: 2}}}, api.ErrForm)
	w.encodes(t, "a Number that is Stream", psi.Pat{Stream: 5, Programs: []psi.Program{{Number: 5, Pid: 5}, {Number: 6, Pid: 5}}}, api.OK)
	w.encodes(t, "the same low byte", psi.Pat{Programs: []psi.Program{{Number: 0x0105}, {Number: 5}, {Number: 0x0501}, {Number: 0xff05}}}, api.OK)
}

// P17.1: two streams of one Pid, so; the same Kind and Info alone, and the clock's Pid, are no fault.
func TestTwoStreams(t *testing.T) {
	w := pmts()
	for many := 2; many < 7; many++ {
		for b := range many {
			for a := range b {
				for _, n := range []int{0, 1, 77, 8191} {
					l := streams(many)
					for k := range l {
						l[k].Pid += 500
						l[k].Info = dots(k)
					}
					l[a].Pid, l[b].Pid = n, n
					w.encodes(t, "the same Pid", psi.Pmt{Clock: 3, Streams: l}, api.ErrForm)
					l[a].Kind, l[b].Kind, l[a].Info, l[b].Info = 9, 9, "x", "x"
					w.encodes(t, "the same", psi.Pmt{Streams: l}, api.ErrForm)
					l[a].Pid++
					if n == 8191 {
						l[a].Pid = 0
					}
					w.encodes(t, "the same Kind and Info", psi.Pmt{Streams: l}, api.OK)
				}
			}
		}
	}
	w.encodes(t, "three", psi.Pmt{Streams: []psi.Stream{{Pid: 4}, {Pid: 4, Kind: 1}, {Pid: 4, Kind: 2}}}, api.ErrForm)
	w.encodes(t, "a Pid that is Clock", psi.Pmt{Program: 5, Clock: 5, Streams: []psi.Stream{{Pid: 5}, {Pid: 6}}}, api.OK)
}

// P17.1: a Pat of 1024 bytes, and ones that would have more, by their programs.
func TestFullPat(t *testing.T) {
	w := pats()
	for _, many := range []int{250, 251, 252, 253} {
		x := psi.Pat{Stream: 1, Version: 2, Programs: programs(many)}
		w.encodes(t, "room", x, api.OK)
		if s, _ := psi.EncodePat(x); len(s) != 12+4*many {
			t.Error(many, len(s))
		}
	}
	for _, many := range []int{254, 255, 256, 257, 1021, 1022, 1024, 16384} {
		w.encodes(t, "no room", psi.Pat{Programs: programs(many)}, api.ErrFull)
	}
	if s, e := psi.EncodePat(psi.Pat{Programs: programs(65536)}); s != "" || e != api.ErrFull {
		t.Error(len(s), e)
	}
}

// P17.1: a Pmt of 1024 bytes, and ones that would have more, by Info, by a stream's Info, by streams, and by all of them.
func TestFullPmt(t *testing.T) {
	w := pmts()
	holds := func(name string, x psi.Pmt, long int) {
		t.Helper()
		e := api.OK
		if long > 1024 {
			e = api.ErrFull
		}
		w.encodes(t, name+" "+strconv.Itoa(long), x, e)
		if s, _ := psi.EncodePmt(x); e == api.OK && len(s) != long {
			t.Error(name, long, len(s))
		}
	}
	longs := []int{0, 1, 254, 255, 256, 257, 998, 999, 4095, 4096, 4097, 5000, 61440, 65535, 65536, 65537, 1 << 20}
	for n := range 12 {
		longs = append(longs, 1000+n)
	}
	for _, long := range longs {
		holds("Info", psi.Pmt{Program: 1, Info: dots(long)}, 16+long)
		holds("a stream's Info", psi.Pmt{Streams: []psi.Stream{{Pid: 1, Info: dots(long)}}}, 21+long)
		holds("one that is not the last", psi.Pmt{Streams: []psi.Stream{{Pid: 1, Info: dots(long)}, {Pid: 2}}}, 26+long)
		holds("one that is not the first", psi.Pmt{Streams: []psi.Stream{{Pid: 1}, {Pid: 2, Info: dots(long)}}}, 26+long)
		holds("both", psi.Pmt{Info: dots(long / 2), Streams: []psi.Stream{{Pid: 1, Info: dots(long - long/2)}}}, 21+long)
	}
	for _, many := range []int{199, 200, 201, 202, 203, 204, 256, 818, 819, 820, 8192} {
		for more := range 5 {
			x := psi.Pmt{Info: dots(more), Streams: streams(many)}
			holds("streams, and Info", x, 16+5*many+more)
			x.Info, x.Streams[many/2].Info = "", dots(more)
			holds("streams, and an Info", x, 16+5*many+more)
		}
	}
}

// P17.1: which error is told where more than one could be (R1): numbers first, then what is there twice, then what has no room.
func TestWhichErrorOfEncode(t *testing.T) {
	named := func(wrong, twice, full bool) api.Errno {
		switch {
		case wrong:
			return api.ErrRange
		case twice:
			return api.ErrForm
		case full:
			return api.ErrFull
		}
		return api.OK
	}
	for n := range 8 {
		wrong, twice, full := n&1 != 0, n&2 != 0, n&4 != 0
		e, many := named(wrong, twice, full), 5+300*bit(full)
		for _, bad := range []int{-1, 65536} {
			for at := range 4 {
				x := psi.Pat{Programs: programs(many)}
				y := psi.Pmt{Info: "x", Streams: streams(many)}
				if twice {
					x.Programs[1].Number = 3
					y.Streams[1].Pid = 3
				}
				if wrong {
					*[]*int{&x.Stream, &x.Version, &x.Programs[many-1].Number, &x.Programs[many-1].Pid}[at] = bad
					*[]*int{&y.Program, &y.Version, &y.Clock, &y.Streams[many-1].Kind}[at] = bad
				}
				pats().encodes(t, "a Pat", x, e)
				pmts().encodes(t, "a Pmt", y, e)
				if wrong {
					y = psi.Pmt{Info: dots(2000 * bit(full)), Streams: []psi.Stream{{Pid: 7}, {Pid: 7 + 1 - bit(twice)}, {Pid: bad, Kind: bad}}}
					pmts().encodes(t, "a Pid", y, e)
				}
			}
		}
	}
	both := []psi.Program{{Number: 70000}, {Number: 70000}}
	pats().encodes(t, "a Number that may not be, twice", psi.Pat{Programs: both}, api.ErrRange)
	pmts().encodes(t, "a Pid that may not be, twice", psi.Pmt{Streams: []psi.Stream{{Pid: -1}, {Pid: -1}}}, api.ErrRange)
}

// R2: what stands behind a list's length is neither told nor written into, and the list stays as it was.
func TestWhatStandsBehind(t *testing.T) {
	ps, ss := programs(9), streams(9)
	ps[5].Number, ss[5].Pid = -1, -1
	ps[6], ss[6] = ps[0], ss[0]
	keptPs, keptSs := slices.Clone(ps), slices.Clone(ss)
	pats().encodes(t, "programs", psi.Pat{Programs: ps[:5]}, api.OK)
	pmts().encodes(t, "streams", psi.Pmt{Streams: ss[:5]}, api.OK)
	if _, e := (psi.Pat{Programs: ps[:5]}).Find(-1); e != api.ErrNone {
		t.Error(e)
	}
	if _, e := (psi.Pmt{Streams: ss[:5]}).Find(-1); e != api.ErrNone {
		t.Error(e)
	}
	if !slices.Equal(ps, keptPs) || !slices.Equal(ss, keptSs) {
		t.Error(ps, ss)
	}
}
