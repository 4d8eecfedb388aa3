package times_test

import (
	"testing"

	"clarion/api"
)

// P9.2: Delta of what was worked out by hand: to at from, one less, one more than some units, both ends of the slots and of the units.
func TestDeltaByHand(t *testing.T) {
	for _, c := range []struct {
		from, to, unit int
		want           one
	}{
		{0, 0, 1, one{n: 0}}, {5, 5, 10, one{n: 0}}, {5, 4, 10, one{e: api.ErrRange}}, {1, 0, 1, one{e: api.ErrRange}},
		{0, 1, 10, one{n: 1}}, {0, 9, 10, one{n: 1}}, {0, 10, 10, one{n: 1}}, {0, 11, 10, one{n: 2}},
		{0, 20, 10, one{n: 2}}, {0, 21, 10, one{n: 3}}, {7, 27, 10, one{n: 2}}, {7, 28, 10, one{n: 3}},
		{0, 4095, 1, one{n: 4095}}, {0, 4096, 1, one{e: api.ErrRange}}, {9, 4104, 1, one{n: 4095}}, {9, 4105, 1, one{e: api.ErrRange}},
		{0, 40940, 10, one{n: 4094}}, {0, 40941, 10, one{n: 4095}}, {0, 40950, 10, one{n: 4095}}, {0, 40951, 10, one{e: api.ErrRange}},
		{0, unit, unit, one{n: 1}}, {0, unit + 1, unit, one{n: 2}}, {0, 4095 * unit, unit, one{n: 4095}}, {0, 4095*unit + 1, unit, one{e: api.ErrRange}},
		{end - 1, end - 1, 1, one{n: 0}}, {end - 2, end - 1, 1, one{n: 1}}, {end - 1, end - 2, 1, one{e: api.ErrRange}},
		{end - 1 - unit, end - 1, unit, one{n: 1}}, {end - 2 - unit, end - 1, unit, one{n: 2}},
		{end - 1 - 4095*unit, end - 1, unit, one{n: 4095}}, {end - 2 - 4095*unit, end - 1, unit, one{e: api.ErrRange}},
		{0, end - 1, 1, one{e: api.ErrRange}}, {0, end - 1, unit, one{e: api.ErrRange}}, {end - 1, 0, unit, one{e: api.ErrRange}},
	} {
		if got := delta(c.from, c.to, c.unit); got != c.want {
			t.Errorf("%d %d %d: %v, not %v", c.from, c.to, c.unit, got, c.want)
		}
	}
}

// P9.2: what is no slot, or no unit, is ErrArg, whatever else is wrong (R1).
func TestDeltaOfWhatMayNotBe(t *testing.T) {
	bad := one{e: api.ErrArg}
	for _, n := range outside(0, end-1) {
		for _, u := range []int{0, 1, 10, unit, unit + 1, -1} {
			for _, other := range []int{0, 5, end - 1, end, -1, n} {
				if got := delta(n, other, u); got != bad {
					t.Errorf("%d %d %d: %v", n, other, u, got)
				}
				if got := delta(other, n, u); got != bad {
					t.Errorf("%d %d %d: %v", other, n, u, got)
				}
			}
		}
	}
	for _, u := range append(outside(1, unit), 0) {
		for _, c := range [][2]int{{0, 0}, {0, 1}, {5, 4}, {0, end - 1}, {end - 1, 0}} {
			if got := delta(c[0], c[1], u); got != bad {
				t.Errorf("%d %d %d: %v", c[0], c[1], u, got)
			}
		}
	}
}

// P9.2: each distance, up to more than 4095 units.
func TestDeltaOfEachDistance(t *testing.T) {
	for _, u := range []int{1, 2, 3, 7, 10, 16} {
		for _, from := range []int{0, 1, 1000003, end/2 - 5} {
			for far := 0; far < 4098*u; far += 1 + far%5 {
				want := one{n: (far + u - 1) / u}
				if want.n > 4095 {
					want = one{e: api.ErrRange}
				}
				if got := delta(from, from+far, u); got != want {
					t.Fatalf("%d %d %d: %v, not %v", from, from+far, u, got, want)
				}
			}
		}
	}
}

// P9.2: Window of delta 0, 1 and 4095, of the units' ends, and of the last slot, so that the answer is beyond it.
func TestWindowByHand(t *testing.T) {
	for _, c := range []struct {
		at, delta, unit int
		want            two
	}{
		{0, 0, 1, two{}}, {7, 0, 10, two{first: 7, last: 7}}, {end - 1, 0, unit, two{first: end - 1, last: end - 1}},
		{0, 1, 1, two{first: 1, last: 1}}, {7, 1, 10, two{first: 8, last: 17}}, {0, 2, 1, two{first: 2, last: 2}}, {0, 3, 10, two{first: 21, last: 30}},
		{0, 1, unit, two{first: 1, last: 1048576}}, {5, 2, unit, two{first: 1048582, last: 2097157}},
		{0, 4095, 1, two{first: 4095, last: 4095}}, {3, 4095, 10, two{first: 40944, last: 40953}},
		{0, 4095, unit, two{first: 4292870145, last: 4293918720}},
		{end - 1, 1, 1, two{first: end, last: end}}, {end - 1, 1, 10, two{first: end, last: end + 9}}, {end - 5, 1, 10, two{first: end - 4, last: end + 5}},
		{end - 1, 4095, unit, two{first: end + 4292870144, last: end + 4293918719}},
	} {
		if got := window(c.at, c.delta, c.unit); got != c.want {
			t.Errorf("%d %d %d: %v, not %v", c.at, c.delta, c.unit, got, c.want)
		}
	}
}

// P9.2: Wake with no guard, with one of less, of as much, and of more than the window is away, and with the greatest.
func TestWakeByHand(t *testing.T) {
	for _, c := range []struct{ at, delta, unit, guard, want int }{
		{0, 3, 10, 0, 21}, {0, 3, 10, 5, 16}, {0, 3, 10, 20, 1}, {0, 3, 10, 21, 0}, {0, 3, 10, 22, 0}, {0, 3, 10, unit, 0},
		{7, 3, 10, 20, 8}, {7, 3, 10, 21, 7}, {7, 3, 10, 22, 7}, {7, 3, 10, 28, 7}, {7, 3, 10, 29, 7},
		{7, 0, 10, 0, 7}, {7, 0, 10, 1, 7}, {7, 0, 10, unit, 7}, {7, 1, 10, 0, 8}, {7, 1, 10, 1, 7}, {7, 1, 10, 99, 7},
		{5, 2, unit, 0, 1048582}, {5, 2, unit, unit, 6}, {4, 3, unit, unit, 1048581}, {0, 4095, unit, unit, 4291821569},
		{end - 1, 0, 1, 0, end - 1}, {end - 1, 1, 10, 0, end}, {end - 1, 1, 10, 1, end - 1}, {end - 1, 3, 10, 5, end + 15},
		{end - 1, 4095, unit, unit, end + 4291821568},
	} {
		if got := wake(c.at, c.delta, c.unit, c.guard); got != (one{n: c.want}) {
			t.Errorf("%d %d %d %d: %v, not %d", c.at, c.delta, c.unit, c.guard, got, c.want)
		}
	}
}

// badWindows is arguments of Window of which each one that may not be stands beside others that may; and some of which all, or most, may not.
func badWindows() [][3]int {
	var l [][3]int
	for _, n := range outside(0, end-1) {
		l = append(l, [3]int{n, 0, 1}, [3]int{n, 3, 10}, [3]int{n, 4095, unit})
	}
	for _, n := range outside(0, 4095) {
		l = append(l, [3]int{0, n, 1}, [3]int{7, n, 10}, [3]int{end - 1, n, unit})
	}
	for _, n := range append(outside(1, unit), 0) {
		l = append(l, [3]int{0, 0, n}, [3]int{7, 3, n}, [3]int{end - 1, 4095, n})
	}
	return append(l, [3]int{-1, -1, 0}, [3]int{end, 4096, unit + 1}, [3]int{-1, 4096, 1})
}

// P9.2: what Window may not be asked is ErrArg of it, and of Wake, whatever the guard is.
func TestWindowAndWakeOfWhatMayNotBe(t *testing.T) {
	for _, c := range badWindows() {
		if got := window(c[0], c[1], c[2]); got != (two{e: api.ErrArg}) {
			t.Errorf("%v: %v", c, got)
		}
		for _, guard := range []int{0, 5, unit, unit + 1, -1} {
			if got := wake(c[0], c[1], c[2], guard); got != (one{e: api.ErrArg}) {
				t.Errorf("%v %d: %v", c, guard, got)
			}
		}
	}
}

// P9.2: guards one beyond, and further.
func TestGuardsThatMayNotBe(t *testing.T) {
	for _, guard := range outside(0, unit) {
		for _, c := range [][3]int{{0, 0, 1}, {0, 3, 10}, {7, 1, 10}, {end - 1, 4095, unit}} {
			if got := wake(c[0], c[1], c[2], guard); got != (one{e: api.ErrArg}) {
				t.Errorf("%v %d: %v", c, guard, got)
			}
		}
	}
}

// some is a number that is at an end, beyond it, near it, or any.
func (s *noise) some(last int) int {
	switch s.below(12) {
	case 0:
		return s.below(3)
	case 1:
		return last - s.below(3)
	case 2:
		return last + 1
	case 3:
		return s.below(last + 1)
	case 4:
		return -1
	default:
		return s.below(min(last, 5000) + 1)
	}
}

// P9.2: any slots, units and guards, by the words.
func TestSlotsOfAny(t *testing.T) {
	s := noise(7)
	seen := map[api.Errno]int{}
	for range 20000 {
		from, to, u, guard := s.some(end-1), s.some(end-1), s.some(unit), s.some(unit)
		if s.below(2) == 0 {
			to = from + s.some(4095)*u - s.below(2)
		}
		d := slowDelta(from, to, u)
		if got := delta(from, to, u); got != d {
			t.Fatalf("Delta %d %d %d: %v, not %v", from, to, u, got, d)
		}
		seen[d.e]++
		n := s.some(4095)
		if got, want := window(from, n, u), slowWindow(from, n, u); got != want {
			t.Fatalf("Window %d %d %d: %v, not %v", from, n, u, got, want)
		}
		if got, want := wake(from, n, u, guard), slowWake(from, n, u, guard); got != want {
			t.Fatalf("Wake %d %d %d %d: %v, not %v", from, n, u, guard, got, want)
		}
	}
	if seen[api.OK] < 2000 || seen[api.ErrArg] < 1000 || seen[api.ErrRange] < 1000 {
		t.Error("too few of a kind:", seen)
	}
}
