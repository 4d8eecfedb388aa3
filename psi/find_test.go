package psi_test

import (
	"math"
	"math/big"
	"slices"
	"testing"

	"clarion/api"
	"clarion/psi"
)

// findsPid holds Find of a Pat against what is told.
func findsPid(t *testing.T, x psi.Pat, number, want int, e api.Errno) {
	t.Helper()
	kept := slices.Clone(x.Programs)
	if n, f := x.Find(number); n != want || f != e {
		t.Errorf("%v, %d: %d, %v, not %d, %v", x, number, n, f, want, e)
	}
	if !slices.Equal(x.Programs, kept) {
		t.Error("other programs:", x.Programs, kept)
	}
}

// findsStream holds Find of a Pmt against what is told.
func findsStream(t *testing.T, x psi.Pmt, pid int, want psi.Stream, e api.Errno) {
	t.Helper()
	kept := slices.Clone(x.Streams)
	if s, f := x.Find(pid); s != want || f != e {
		t.Errorf("%v, %d: %v, %v, not %v, %v", x, pid, s, f, want, e)
	}
	if !slices.Equal(x.Streams, kept) {
		t.Error("other streams:", x.Streams, kept)
	}
}

// P17.3: programs that are there once, at each place, twice, and not at all; of a Pat that may not be, too.
func TestFindOfAProgram(t *testing.T) {
	x := psi.Pat{Stream: 9, Version: 4, Programs: []psi.Program{{Number: 5, Pid: 256}, {Number: 0, Pid: 16}, {Number: 65535, Pid: 8191}, {Number: 6, Pid: 0}}}
	findsPid(t, x, 5, 256, api.OK)
	findsPid(t, x, 0, 16, api.OK)
	findsPid(t, x, 65535, 8191, api.OK)
	findsPid(t, x, 6, 0, api.OK)
	for _, n := range []int{9, 4, 256, 16, 8191, -1, 1, 65536, 65536 + 5, 1<<32 + 5, math.MinInt, math.MaxInt} {
		findsPid(t, x, n, 0, api.ErrNone)
	}
	for _, none := range []psi.Pat{{}, {Stream: 5, Programs: []psi.Program{}}} {
		findsPid(t, none, 0, 0, api.ErrNone)
		findsPid(t, none, 5, 0, api.ErrNone)
	}
	twice := psi.Pat{Programs: []psi.Program{{Number: 1, Pid: 9}, {Number: 5, Pid: 3}, {Number: 5, Pid: 2}, {Number: 1, Pid: 4}, {Number: 5, Pid: 3}}}
	findsPid(t, twice, 5, 3, api.OK)
	findsPid(t, twice, 1, 9, api.OK)
	findsPid(t, twice, 2, 0, api.ErrNone)
	wrong := psi.Pat{Stream: -1, Version: 32, Programs: []psi.Program{{Number: 70000, Pid: -7}, {Number: -1, Pid: 9000}}}
	findsPid(t, wrong, 70000, -7, api.OK)
	findsPid(t, wrong, -1, 9000, api.OK)
	findsPid(t, wrong, 70000-65536, 0, api.ErrNone)
}

// P17.3: streams, so.
func TestFindOfAStream(t *testing.T) {
	l := []psi.Stream{{Kind: 5, Pid: 256, Info: "ab"}, {Kind: 0, Pid: 0}, {Kind: 255, Pid: 8191, Info: "x"}, {Kind: 5, Pid: 6, Info: "ab"}}
	x := psi.Pmt{Program: 9, Version: 4, Clock: 77, Info: "info", Streams: l}
	for _, s := range l {
		findsStream(t, x, s.Pid, s, api.OK)
	}
	for _, n := range []int{9, 4, 77, 5, 255, -1, 1, 8192, 8192 + 6, 1<<32 + 6, math.MinInt, math.MaxInt} {
		findsStream(t, x, n, psi.Stream{}, api.ErrNone)
	}
	for _, none := range []psi.Pmt{{}, {Clock: 5, Info: "info", Streams: []psi.Stream{}}} {
		findsStream(t, none, 0, psi.Stream{}, api.ErrNone)
		findsStream(t, none, 5, psi.Stream{}, api.ErrNone)
	}
	twice := psi.Pmt{Streams: []psi.Stream{{Pid: 1, Kind: 9}, {Pid: 5, Kind: 3, Info: "first"}, {Pid: 5, Kind: 2, Info: "second"}, {Pid: 1, Kind: 4}, {Pid: 5}}}
	findsStream(t, twice, 5, twice.Streams[1], api.OK)
	findsStream(t, twice, 1, twice.Streams[0], api.OK)
	findsStream(t, twice, 2, psi.Stream{}, api.ErrNone)
	wrong := psi.Pmt{Program: -1, Clock: 9000, Streams: []psi.Stream{{Pid: 70000, Kind: -7, Info: dots(5000)}, {Pid: -1, Kind: 256}}}
	findsStream(t, wrong, 70000, wrong.Streams[0], api.OK)
	findsStream(t, wrong, -1, wrong.Streams[1], api.OK)
	findsStream(t, wrong, 70000%8192, psi.Stream{}, api.ErrNone)
}

// P17.3: each one of what is decoded is found.
func TestFindOfWhatIsDecoded(t *testing.T) {
	s := noise(7)
	for range 50 {
		text, _ := slowPat(s.pat(s.below(200)))
		x, _ := psi.DecodePat(text)
		for _, p := range x.Programs {
			findsPid(t, x, p.Number, p.Pid, api.OK)
		}
		text, _ = slowPmt(s.pmt(s.below(20)))
		y, _ := psi.DecodePmt(text)
		for _, p := range y.Streams {
			findsStream(t, y, p.Pid, p, api.OK)
		}
	}
}

// slowNewer is what Newer must answer, in numbers without an end.
func slowNewer(a, b int) bool {
	by := new(big.Int).Sub(big.NewInt(int64(b)), big.NewInt(int64(a)))
	n := by.Mod(by, big.NewInt(32)).Int64()
	return n >= 1 && n <= 15
}

// P17.3: Newer by hand: the same, one to 31 apart, both ways round.
func TestNewer(t *testing.T) {
	for a := range 32 {
		for by := range 32 {
			b := (a + by) % 32
			if got := psi.Newer(a, b); got != (by > 0 && by < 16) {
				t.Errorf("%d, %d: %v", a, b, got)
			}
			if got := psi.Newer(b, a); got != (by > 16) {
				t.Errorf("%d, %d: %v", b, a, got)
			}
		}
	}
}

// P17.3: numbers below 0 and above 31, by what they leave divided by 32; the ends of all numbers, too.
func TestNewerOfAnyNumbers(t *testing.T) {
	for _, c := range []struct {
		a, b int
		want bool
	}{
		{-1, 0, true}, {0, -1, false}, {-1, -2, false}, {-2, -1, true}, {31, 32, true}, {32, 31, false}, {0, 32, false}, {0, 33, true}, {33, 0, false}, {-1, 31, false},
		{-32, 1, true}, {-33, 0, true}, {-15, 0, true}, {-16, 0, false}, {-17, 0, false}, {-31, 0, false}, {0, -31, true}, {0, -17, true}, {0, -16, false}, {0, 47, true}, {0, 48, false},
		{math.MinInt, math.MaxInt, false}, {math.MaxInt, math.MinInt, true}, {math.MinInt, 15, true}, {math.MinInt, 16, false}, {math.MaxInt, 14, true}, {math.MaxInt, 15, false},
	} {
		if got := psi.Newer(c.a, c.b); got != c.want || slowNewer(c.a, c.b) != c.want {
			t.Errorf("%d, %d: %v", c.a, c.b, got)
		}
	}
	var l []int
	for n := -100; n <= 100; n++ {
		l = append(l, n)
	}
	for n := range 40 {
		l = append(l, math.MinInt+n, math.MaxInt-n, 1<<31+n, -1<<31-n, 1<<32-n, -1<<32-n)
	}
	for _, a := range l {
		for _, b := range l {
			if got := psi.Newer(a, b); got != slowNewer(a, b) {
				t.Fatalf("%d, %d: %v", a, b, got)
			}
		}
	}
}

// P17.4: of two versions that are not the same, nor 16 apart, just one is newer than the other; of others none is.
func TestJustOneIsNewer(t *testing.T) {
	for a := range 32 {
		for b := range 32 {
			one := a != b && a != b+16 && b != a+16
			if got := bit(psi.Newer(a, b)) + bit(psi.Newer(b, a)); got != bit(one) {
				t.Errorf("%d, %d: %d", a, b, got)
			}
		}
	}
}
