package descr_test

import (
	"slices"
	"strings"
	"testing"

	"clarion/api"
	"clarion/descr"
)

// P18.5: loops that are made are read again, and what is read is made of the same bytes.
func TestParseOfLoop(t *testing.T) {
	s := noise(3)
	for many := range 2048 {
		l := s.list(many, min(255, 4095/max(many, 1)-2))
		text, e := descr.Loop(l...)
		if e != api.OK {
			t.Fatalf("%d: %v", many, e)
		}
		parses(t, "back", text, l, api.OK)
	}
	for range 20000 {
		text := s.text(s.below(12))
		if l, e := descr.Parse(text); e == api.OK {
			if again, e := descr.Loop(l...); again != text || e != api.OK {
				t.Errorf("%q: %q, %v", text, again, e)
			}
		}
	}
}

// P18.5: so of Slices, Places and targets; in a loop with one another, too.
func TestReadOfMake(t *testing.T) {
	s := noise(12)
	for range 5000 {
		x, y, z := s.slice(), s.place(), s.targets(s.below(52))
		makesSlice(t, x, api.OK)
		makesPlace(t, y, api.OK)
		makesTargets(t, z, api.OK)
		a, _ := x.Make()
		b, _ := y.Make()
		c, _ := descr.Targets(z...)
		text, _ := descr.Loop(c, b, a)
		l, e := descr.Parse(text)
		if e != api.OK || !slices.Equal(l, list(c, b, a)) {
			t.Fatalf("%q: %v, %v", text, l, e)
		}
		if got, e := descr.ReadSlice(l[2]); got != x || e != api.OK {
			t.Errorf("%v: %v, %v", x, got, e)
		}
		if got, e := descr.ReadPlace(l[1]); got != y || e != api.OK {
			t.Errorf("%v: %v, %v", y, got, e)
		}
		if got, e := descr.ReadTargets(l[0]); !slices.Equal(got, z) || e != api.OK {
			t.Errorf("%v: %v, %v", z, got, e)
		}
	}
}

// P18.5: what is read of any bodies is made of the same ones: there are no two ways to write one.
func TestMakeOfWhatIsRead(t *testing.T) {
	s := noise(13)
	var slice, place, targets int
	for range 60000 {
		body := s.text(s.below(12))
		if x, e := descr.ReadSlice(d(119, body)); e == api.OK {
			slice++
			if got, e := x.Make(); got != d(119, body) || e != api.OK {
				t.Errorf("%q: %v, %v", body, got, e)
			}
		}
		if x, e := descr.ReadPlace(d(19, body)); e == api.OK {
			place++
			if got, e := x.Make(); got != d(19, body) || e != api.OK {
				t.Errorf("%q: %v, %v", body, got, e)
			}
		}
		if l, e := descr.ReadTargets(d(15, body)); e == api.OK {
			targets++
			if got, e := descr.Targets(l...); got != d(15, body) || e != api.OK {
				t.Errorf("%q: %v, %v", body, got, e)
			}
		}
	}
	if min(slice, place, targets) < 500 {
		t.Error("too few of a kind:", slice, place, targets)
	}
}

// P18.5: so of Ints: of each one, and of its bytes with one bit that is another one.
func TestReadIntOfBody(t *testing.T) {
	s := noise(14)
	same := 0
	for range 300 {
		x := s.table(s.below(5))
		makesInt(t, x, api.OK)
		body, _ := x.Body()
		if y, e := descr.ReadInt(x.Ext(), body); !sameInt(x, y) || e != api.OK {
			t.Errorf("%v: %v, %v", x, y, e)
		}
		for at := range 8 * len(body) {
			other := put(body, at/8, int(body[at/8])^128>>(at%8))
			if readsInt(t, x.Ext(), other) != api.OK {
				continue
			}
			same++
			y, _ := descr.ReadInt(x.Ext(), other)
			if again, e := y.Body(); again != other || e != api.OK || y.Ext() != x.Ext() {
				t.Errorf("%q: %q, %v, %d", other, again, e, y.Ext())
			}
		}
	}
	if same < 500 {
		t.Error("too few are read:", same)
	}
}

// P18.4, R2: lists of an Int that is handed in are neither written into nor written behind.
func TestIntsListsStay(t *testing.T) {
	behind := d(77, "behind")
	x := anInt()
	info, targets, ops := x.Info, x.Entries[0].Targets, x.Entries[0].Ops
	x.Info, x.Entries[0].Targets, x.Entries[0].Ops = roomy(info, behind), roomy(targets, behind), roomy(ops, behind)
	entries := append(x.Entries, descr.Entry{Ops: list(behind)})
	x.Entries = entries[:1]
	makesInt(t, x, api.OK)
	x.Action = -1
	makesInt(t, x, api.ErrRange)
	untouched(t, "Info", x.Info, info, behind)
	untouched(t, "Targets", x.Entries[0].Targets, targets, behind)
	untouched(t, "Ops", x.Entries[0].Ops, ops, behind)
	if entries[1].Targets != nil || !slices.Equal(entries[1].Ops, list(behind)) {
		t.Error("another entry:", entries[1])
	}
}

// R2: lists that are answered are the caller's: what is written into them, or behind them, turns no other list, and no other answer.
func TestAnswersAreTheCallers(t *testing.T) {
	text := "\x01\x00\x02\x02ab\x03\x00"
	l, _ := descr.Parse(text)
	m, _ := descr.Parse(text)
	l[0].Tag = 99
	_ = append(l[:1], d(88, ""))
	if !slices.Equal(m, list(d(1, ""), d(2, "ab"), d(3, ""))) {
		t.Error(m)
	}
	parses(t, "again", text, m, api.OK)

	z, _ := descr.ReadTargets(d(15, strings.Repeat("abcd\x05", 3)))
	z[0].Bits, z[0].Addr[0] = 9, 9
	_ = append(z[:1], descr.Target{})
	told(t, "again", readsTargets(t, d(15, strings.Repeat("abcd\x05", 3))), api.OK)

	body := anIntsBody + anIntsBody[9:]
	x, _ := descr.ReadInt(anIntsExt, body)
	want := copied(x)
	for _, l := range loops(x) {
		_ = append(l, d(77, ""), d(78, ""))
	}
	_ = append(x.Entries[0].Targets, list(d(77, ""), d(78, ""), d(79, ""))...)
	if !sameInt(x, want) {
		t.Errorf("%v, not %v", x, want)
	}
	for _, l := range loops(x) {
		l[0] = d(55, "written")
	}
	x.Entries[0] = descr.Entry{}
	told(t, "again", readsInt(t, anIntsExt, body), api.OK)
	if y, _ := descr.ReadInt(anIntsExt, body); !sameInt(y, want) {
		t.Errorf("%v, not %v", y, want)
	}
}

// R3: what was asked ahead changes nothing.
func TestAskedAgain(t *testing.T) {
	for range 50 {
		makesLoop(t, "again", filled(4095), api.OK)
		makesLoop(t, "again", filled(4096), api.ErrLong)
		makesSlice(t, aSlice(), api.OK)
		makesSlice(t, descr.Slice{}, api.ErrRange)
		makesPlace(t, aPlace(), api.OK)
		makesPlace(t, descr.Place{Tag: 256}, api.ErrRange)
		makesTargets(t, []descr.Target{{Bits: 32}}, api.OK)
		makesTargets(t, []descr.Target{{Bits: 33}}, api.ErrRange)
		makesInt(t, anInt(), api.OK)
		makesInt(t, descr.Int{Action: 256}, api.ErrRange)
		told(t, "again", readsInt(t, anIntsExt, anIntsBody), api.OK)
		told(t, "again", readsInt(t, anIntsExt+1, anIntsBody), api.ErrForm)
		told(t, "again", readsSlice(t, d(119, "\x18\x00\x00")), api.OK)
		told(t, "again", readsSlice(t, d(119, "\x14\x00\x00")), api.ErrForm)
		finds(t, list(d(5, "a"), d(5, "b")), 5, d(5, "a"), api.OK)
	}
}
