package times_test

import (
	"testing"

	"clarion/api"
	"clarion/times"
)

// P9.4: Decode of Encode is the times, and Encode of Decode the bytes.
func TestDecodeOfEncodeAndEncodeOfDecode(t *testing.T) {
	s := noise(11)
	for range 50000 {
		x := s.times()
		b, e := times.Encode(x)
		if e != api.OK || len(b) != 4 {
			t.Fatalf("%+v: %q, %v", x, b, e)
		}
		if got := decoded(b); got != (told{t: x}) {
			t.Fatalf("%+v: %+v", x, got)
		}
	}
	for range 50000 {
		b := string([]byte{byte(s.below(256)), byte(s.below(256)), byte(s.below(256)), byte(s.below(256))})
		x, e := times.Decode(b)
		if e != api.OK || times.Check(x) != api.OK {
			t.Fatalf("%q: %+v, %v", b, x, e)
		}
		if got := encoded(x); got != (bytesOf{s: b}) {
			t.Fatalf("%q: %q, %v", b, got.s, got.e)
		}
	}
}

// leads holds that a slot is in the Window of its Delta, that the next Window begins behind this one, and that Wake is no later than the slot.
func leads(t *testing.T, from, to, u, guard int) {
	t.Helper()
	n, e := times.Delta(from, to, u)
	if e != api.OK {
		t.Fatalf("Delta %d %d %d: %v", from, to, u, e)
	}
	first, last, e := times.Window(from, n, u)
	if e != api.OK || to < first || to > last {
		t.Fatalf("%d is not in the window of %d %d %d: %d to %d, %v", to, from, n, u, first, last, e)
	}
	up, e := times.Wake(from, n, u, guard)
	if e != api.OK || up > to || up < from || first-up > guard {
		t.Fatalf("Wake %d %d %d %d: %d, %v, for %d", from, n, u, guard, up, e, to)
	}
	if none, e := times.Wake(from, n, u, 0); none != first || e != api.OK {
		t.Fatalf("Wake %d %d %d 0: %d, %v, not %d", from, n, u, none, e, first)
	}
}

// P9.4: the slot to is in the Window of Delta, and no earlier than Wake.
func TestTheSlotIsInTheWindow(t *testing.T) {
	for _, u := range []int{1, 2, 3, 10, unit - 1, unit} {
		for _, units := range []int{0, 1, 2, 100, 4094, 4095} {
			for _, from := range []int{0, 1, end - 1 - units*u} {
				for _, less := range []int{0, 1, u / 2, u - 1} {
					for _, guard := range []int{0, 1, u, unit} {
						if to := from + units*u - less; to >= from {
							leads(t, from, to, u, guard)
						}
					}
				}
			}
		}
	}
	s := noise(13)
	for range 50000 {
		u := 1 + s.below(unit)
		if s.below(2) == 0 {
			u = 1 + s.below(50)
		}
		from := s.below(end - 4095*u)
		leads(t, from, from+s.below(4095*u+1), u, s.below(unit+1))
	}
}

// P9.4: the windows of all deltas lie one behind the other: each slot is in just that of its Delta.
func TestWindowsLieOneBehindTheOther(t *testing.T) {
	for _, u := range []int{1, 7, 1000, unit} {
		for _, from := range []int{0, 12345, end - 1 - 4095*u} {
			next := from
			for n := range 4096 {
				w := window(from, n, u)
				if w.e != api.OK || w.first != next || n > 0 && w.last-w.first+1 != u {
					t.Fatalf("Window %d %d %d: %v, not from %d", from, n, u, w, next)
				}
				if delta(from, w.first, u) != (one{n: n}) || delta(from, w.last, u) != (one{n: n}) {
					t.Fatalf("%d %d: %v, %v, not %d", from, u, delta(from, w.first, u), delta(from, w.last, u), n)
				}
				next = w.last + 1
			}
		}
	}
}

// P9.4: Place and At lead to one another, in tables of all rows, and no two bytes are at one place.
func TestPlaceAndAtLeadToOneAnother(t *testing.T) {
	for _, rows := range tables() {
		seen := map[complex128]bool{}
		for n := range 191 * rows {
			p, e := times.Place(rows, n)
			if e != api.OK || seen[p] || real(p) < 0 || real(p) > float64(rows-1) || imag(p) < 0 || imag(p) > 190 {
				t.Fatalf("Place %d %d: %v, %v", rows, n, p, e)
			}
			seen[p] = true
			if got := at(rows, p); got != (one{n: n}) {
				t.Fatalf("At %d %v: %v, not %d", rows, p, got, n)
			}
		}
	}
}

// R3: what was asked ahead changes nothing.
func TestAskedAgain(t *testing.T) {
	type all struct {
		b     bytesOf
		x     told
		d, w  one
		v     two
		p     placed
		n     one
		check api.Errno
	}
	ask := func() all {
		x := api.Times{Delta: 5, Frame: true, At: 70000}
		return all{encoded(x), decoded("\x12\x39\x45\x67"), delta(3, 99, 10), wake(3, 9, 10, 4), window(3, 9, 10), place(512, 5000), at(768, 7+9i), times.Check(x)}
	}
	first := ask()
	times.Check(api.Times{Delta: 4096})
	times.Encode(api.Times{At: -1})
	times.Decode("\xff\xff\xff\xff\xff")
	times.Delta(0, end-1, 1)
	times.Window(end, 0, 0)
	times.Wake(0, 4095, unit, unit+1)
	times.Place(100, 0)
	times.At(1024, -1)
	if got := ask(); got != first {
		t.Errorf("%+v, not %+v", got, first)
	}
}
