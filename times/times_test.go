package times_test

import (
	"testing"

	"clarion/api"
	"clarion/times"
)

// The calls as the chapter lists them: with another signature this file does not build.
var (
	_ func(api.Times) api.Errno                         = times.Check
	_ func(api.Times) (string, api.Errno)               = times.Encode
	_ func(string) (api.Times, api.Errno)               = times.Decode
	_ func(from, to, unit int) (int, api.Errno)         = times.Delta
	_ func(at, delta, unit, guard int) (int, api.Errno) = times.Wake
	_ func(at, delta, unit int) (int, int, api.Errno)   = times.Window
	_ func(rows, at int) (complex128, api.Errno)        = times.Place
	_ func(rows int, p complex128) (int, api.Errno)     = times.At
)

// What the calls are asked and answer of times, as package api has it.
var _ = struct {
	Delta int
	Table bool
	Frame bool
	At    int
}(api.Times{})

// The chapter's examples, as they stand there.
func TestExamples(t *testing.T) {
	if got := encoded(api.Times{Delta: 5, Table: true, At: 3}); got != (bytesOf{s: "\x00\x58\x00\x03"}) {
		t.Errorf("%q, %v", got.s, got.e)
	}
	if got := delta(0, 21, 10); got != (one{n: 3}) {
		t.Error(got)
	}
	if got := window(0, 3, 10); got != (two{first: 21, last: 30}) {
		t.Error(got)
	}
	if p, e := times.Place(256, 257); p != 1+1i || e != api.OK {
		t.Error(p, e)
	}
}

// P9.1: bytes that were worked out by hand.
func TestBytesByHand(t *testing.T) {
	for want, x := range map[string]api.Times{
		"\x00\x00\x00\x00": {},
		"\xff\xff\xff\xff": {Delta: 4095, Table: true, Frame: true, At: 262143},
		"\xff\xf0\x00\x00": {Delta: 4095},
		"\x00\x08\x00\x00": {Table: true},
		"\x00\x04\x00\x00": {Frame: true},
		"\x00\x03\xff\xff": {At: 262143},
		"\x00\x10\x00\x01": {Delta: 1, At: 1},
		"\x80\x02\x00\x00": {Delta: 2048, At: 131072},
		"\x12\x39\x45\x67": {Delta: 0x123, Table: true, At: 0x14567},
		"\xab\xc6\x80\x41": {Delta: 0xabc, Frame: true, At: 0x28041},
		"\x01\x00\x00\x80": {Delta: 16, At: 128},
	} {
		if got := encoded(x); got != (bytesOf{s: want}) {
			t.Errorf("%+v: %q, %v", x, got.s, got.e)
		}
		if got := decoded(want); got != (told{t: x}) {
			t.Errorf("%q: %+v", want, got)
		}
	}
}

// flags is the four times that Table and Frame make of one.
func flags(x api.Times) []api.Times {
	l := []api.Times{x, x, x, x}
	for n := range l {
		l[n].Table, l[n].Frame = n/2 == 1, n%2 == 1
	}
	return l
}

// P9.1: each Delta that may be, and At at both ends, with each of Table and Frame.
func TestTimesThatMayBe(t *testing.T) {
	for n := range 4096 {
		for _, at := range []int{0, 1, 131072, 262142, 262143} {
			for _, x := range flags(api.Times{Delta: n, At: at}) {
				checks(t, x, api.OK)
			}
		}
	}
	for n := 0; n < 262144; n += 1 + n%7 {
		checks(t, api.Times{At: n}, api.OK)
		checks(t, api.Times{Delta: 4095, Table: true, Frame: true, At: n}, api.OK)
	}
}

// P9.1: one beyond, and further, of Delta, of At, and of both.
func TestTimesThatMayNotBe(t *testing.T) {
	for _, n := range outside(0, 4095) {
		for _, at := range []int{0, 3, 262143, 262144, -1} {
			for _, x := range flags(api.Times{Delta: n, At: at}) {
				checks(t, x, api.ErrRange)
			}
		}
	}
	for _, n := range outside(0, 262143) {
		for _, delta := range []int{0, 5, 4095, 4096, -1} {
			for _, x := range flags(api.Times{Delta: delta, At: n}) {
				checks(t, x, api.ErrRange)
			}
		}
	}
}

// P9.1: any that are drawn near the ends, by the words.
func TestCheckOfAny(t *testing.T) {
	s := noise(3)
	seen := map[api.Errno]int{}
	for range 20000 {
		x := s.times()
		x.Delta += s.below(3) * (s.below(200) - 100)
		x.At += s.below(3) * (s.below(20000) - 10000)
		e := slowCheck(x)
		checks(t, x, e)
		seen[e]++
	}
	if seen[api.OK] < 1000 || seen[api.ErrRange] < 300 {
		t.Error("too few of a kind:", seen)
	}
}

// P9.1: of no byte to five, and of more; whatever they are.
func TestDecodeOfOtherLengths(t *testing.T) {
	all := "\xff\xff\xff\xff\xff"
	for long, want := range []told{
		{e: api.ErrShort}, {e: api.ErrShort}, {e: api.ErrShort}, {e: api.ErrShort},
		{t: api.Times{Delta: 4095, Table: true, Frame: true, At: 262143}}, {e: api.ErrLong},
	} {
		if got := decoded(all[:long]); got != want {
			t.Errorf("%d bytes: %+v", long, got)
		}
	}
	s := noise(5)
	for long := range 300 {
		b := make([]byte, long)
		for k := range b {
			b[k] = byte(s.below(256))
		}
		if got := decoded(string(b)); got != slowDecode(string(b)) {
			t.Errorf("%d bytes: %+v", long, got)
		}
	}
	if got := decoded(string(make([]byte, 1<<20))); got != (told{e: api.ErrLong}) {
		t.Errorf("%+v", got)
	}
}

// P9.1: each bit alone, and all but each.
func TestDecodeOfOneBit(t *testing.T) {
	for k := range 32 {
		x := uint32(1) << k
		for _, x := range []uint32{x, ^x} {
			s := string([]byte{byte(x >> 24), byte(x >> 16), byte(x >> 8), byte(x)})
			if got := decoded(s); got != slowDecode(s) || got.e != api.OK {
				t.Errorf("%q: %+v", s, got)
			}
		}
	}
}
