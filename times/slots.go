package times

import "clarion/api"

const (
	slots     = 1 << 40 // how many slots there are
	mostUnit  = 1 << 20 // the slots of the greatest unit
	mostGuard = 1 << 20 // the slots of the greatest guard
)

// Delta is how many units it is from one slot to another one, the last one not being whole.
func Delta(from, to, unit int) (int, api.Errno) {
	if !isSlot(from) || !isSlot(to) || !isUnit(unit) {
		return 0, api.ErrArg
	}
	n := (to - from + unit - 1) / unit
	if to < from || n > mostDelta {
		return 0, api.ErrRange
	}
	return n, api.OK
}

// Window is the first and the last number, be it a slot or not, at which what was told at a slot may begin.
func Window(at, delta, unit int) (first, last int, e api.Errno) {
	switch {
	case !isSlot(at), !within(delta, 0, mostDelta), !isUnit(unit):
		return 0, 0, api.ErrArg
	case delta == 0:
		return at, at, api.OK
	}
	return at + (delta-1)*unit + 1, at + delta*unit, api.OK
}

// Wake is from which slot on one must be awake, of what was told at a slot.
func Wake(at, delta, unit, guard int) (int, api.Errno) {
	first, _, e := Window(at, delta, unit)
	if e != api.OK {
		return 0, e
	}
	if !within(guard, 0, mostGuard) {
		return 0, api.ErrArg
	}
	return max(first-guard, at), api.OK
}

// isSlot tells whether a number is that of a slot.
func isSlot(n int) bool { return within(n, 0, slots-1) }

// isUnit tells whether a unit may have so many slots.
func isUnit(n int) bool { return within(n, 1, mostUnit) }

// within tells whether a number is from first to last.
func within(n, first, last int) bool { return first <= n && n <= last }
