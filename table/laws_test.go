package table_test

import (
	"slices"
	"testing"

	"clarion/api"
	"clarion/table"
)

// whole tells whether what is out is a frame's datagrams, all of them, in order, once.
func whole(f *sent, x *table.Table) bool { return slices.Equal(x.Out(), f.placed) }

// some tells whether what is out is some of a frame's datagrams, in order, each once, as it was.
func some(f *sent, x *table.Table) bool {
	l := f.placed
	for _, p := range x.Out() {
		at := slices.Index(l, p)
		if at < 0 {
			return false
		}
		l = l[at+1:]
	}
	return true
}

// P13.3: of a frame whose rows have no more than 64 lost bytes each all is mended, and told.
func TestFramesThatAreMended(t *testing.T) {
	noisy := noise(51)
	for k := range 8 {
		rows := allRows()[k%4]
		f := noisy.frame(rows, []int{60, 400, 4080}[k%3])
		parity := noisy.below(65)
		lose := make([][]int, rows)
		for row := range lose {
			lose[row] = noisy.places(noisy.below(parity+1), 191)
		}
		// Each row has the most that may be lost in one of two frames.
		for row := 0; k < 4 && row < rows; row++ {
			lose[row] = noisy.places(parity, 191)
		}
		x, s := both(t, rows)
		f.gives(t, x, s, lose, noisy.places(parity, 64)...)
		if got := mends(x); got.failed != 0 {
			t.Errorf("%d: %+v", k, got)
		}
		for row := range rows {
			mendedRow(t, f, x, row, true)
		}
		if !whole(f, x) {
			t.Errorf("%d: %d told, not %d, or others", k, len(x.Out()), len(f.placed))
		}
	}
}

// P13.3: of a frame of which datagrams are lost, columns of parity, and padding or not, only its datagrams are told, in order, each as it was, ahead of Mend and behind it: all, if no row failed, and all that were put, whatever failed.
func TestWhateverIsLost(t *testing.T) {
	noisy := noise(53)
	var all, none, part int
	for k := range 36 {
		rows := 256
		if k%6 == 5 {
			rows = allRows()[k%4]
		}
		f := noisy.frame(rows, []int{200, 1000, 4080}[k%3])
		x, s := both(t, rows)
		var kept []table.Placed
		share := 1 + noisy.below(12)
		for _, p := range f.placed {
			if noisy.below(12) >= share {
				continue
			}
			puts(t, x, s, p.At, p.Text)
			kept = append(kept, p)
		}
		if noisy.below(4) > 0 {
			pads(t, x, s, f.padding())
		}
		parity := noisy.below(65)
		if k%2 == 0 {
			// So many that the first row can just be mended: of the others some can, and some can not.
			parity = min(max(lost(x, 0).n-64, 0), 64)
		}
		for _, n := range noisy.places(parity, 64) {
			pars(t, x, s, n, f.columns[191+n])
		}
		if !slices.Equal(x.Out(), kept) {
			t.Errorf("%d: %d told, not %d, or others", k, len(x.Out()), len(kept))
		}
		got := mends(x)
		switch {
		case got.failed == 0:
			all++
		case got.mended == 0:
			none++
		default:
			part++
		}
		if !some(f, x) || got.failed == 0 && !whole(f, x) {
			t.Errorf("%d: %+v, %d told of %d, or others", k, got, len(x.Out()), len(f.placed))
		}
		for _, p := range kept {
			if !slices.Contains(x.Out(), p) {
				t.Errorf("%d: %d is not told", k, p.At)
			}
		}
	}
	if all < 4 || none < 4 || part < 4 {
		t.Errorf("all rows were mended %d times, none %d times, some %d times", all, none, part)
	}
}

// P13.3: it does not count in what order what is known came: pieces, columns of parity and padding, in any order, some of them twice, with all asked between.
func TestInAnyOrder(t *testing.T) {
	noisy := noise(57)
	for _, rows := range []int{256, 256, 512} {
		f := noisy.frame(rows, 900)
		for range 2 {
			x, s := both(t, rows)
			y, too := both(t, rows)
			var steps []func(x *table.Table, s *slow)
			for _, p := range f.placed {
				if noisy.below(3) > 0 {
					steps = append(steps, func(x *table.Table, s *slow) { puts(t, x, s, p.At, p.Text) })
				}
			}
			for n := range 64 {
				if noisy.below(3) > 0 {
					steps = append(steps, func(x *table.Table, s *slow) { pars(t, x, s, n, f.columns[191+n]) })
				}
			}
			steps = append(steps, func(x *table.Table, s *slow) { pads(t, x, s, f.padding()) })
			for _, step := range steps {
				step(x, s)
			}
			for k, n := range noisy.places(len(steps), len(steps)) {
				steps[n](y, too)
				if k%7 == 0 {
					steps[n](y, too)
					y.Out()
					y.At(k)
					y.Lost(k)
					y.Put(-1, "x")
					y.Put(191*rows, "x")
					y.Parity(64, f.columns[191])
					y.Parity(0, "x")
					y.Pad(192)
					y.Pad(0)
				}
			}
			tells(t, "in order", x, s)
			tells(t, "in any order", y, too)
			same(t, x, y, rows)
			if mends(x) != mends(y) {
				t.Error("not the same mended")
			}
			same(t, x, y, rows)
			if !some(f, x) {
				t.Error("others are told")
			}
		}
	}
}

// same holds what two tables tell against one another.
func same(t *testing.T, x, y *table.Table, rows int) {
	t.Helper()
	for n := range 191 * rows {
		if at(x, n) != at(y, n) {
			t.Fatalf("At of %d: %+v and %+v", n, at(x, n), at(y, n))
		}
	}
	for n := range rows {
		if lost(x, n) != lost(y, n) {
			t.Fatalf("Lost of %d: %+v and %+v", n, lost(x, n), lost(y, n))
		}
	}
	if !slices.Equal(x.Out(), y.Out()) {
		t.Fatal("not the same out")
	}
}

// R3: two tables at once have nothing of one another.
func TestTwoTables(t *testing.T) {
	noisy := noise(59)
	x, s := both(t, 256)
	y, too := both(t, 1024)
	for k := range 30 {
		puts(t, x, s, noisy.below(40000), noisy.datagram(900))
		puts(t, y, too, noisy.below(40000), noisy.datagram(900))
		pars(t, x, s, noisy.below(64), noisy.text(256))
		if k == 20 {
			x.Clear()
			s = empty(256)
			pads(t, y, too, 100)
		}
	}
	tells(t, "first", x, s)
	tells(t, "second", y, too)
}

// R3: what is asked again is answered again: asking changes nothing, and failing neither.
func TestAskedAgain(t *testing.T) {
	noisy := noise(63)
	f := noisy.frame(256, 900)
	x, s := both(t, 256)
	for _, p := range f.placed[:len(f.placed)/2] {
		puts(t, x, s, p.At, p.Text)
	}
	for range 3 {
		tells(t, "asked", x, s)
		if got := mends(x); got != (mending{failed: 256}) {
			t.Errorf("%+v", got)
		}
	}
}

// R1, P13.1, P13.2: any calls, one behind the other, be they wrong or not, are answered by the words, and leave what the words leave.
func TestAnyCalls(t *testing.T) {
	noisy := noise(61)
	for k := range 16 {
		rows := []int{256, 256, 256, 512}[k%4]
		f := noisy.frame(rows, 2000)
		x, s := both(t, rows)
		for range 60 {
			anyCall(t, &noisy, f, x, s)
		}
		tells(t, "any calls", x, s)
		mendsBoth(t, "any calls", x, s)
	}
}

// anyCall makes any one call of both tables.
func anyCall(t *testing.T, noisy *noise, f *sent, x *table.Table, s *slow) {
	t.Helper()
	switch noisy.below(12) {
	case 0, 1, 2, 3:
		p := f.placed[noisy.below(len(f.placed))]
		puts(t, x, s, p.At, p.Text)
	case 4:
		n := noisy.below(s.size() + 100)
		puts(t, x, s, n-50, noisy.text(noisy.below(100)))
	case 5:
		n := noisy.below(s.size())
		puts(t, x, s, n, f.data()[n:min(n+noisy.below(20000), s.size())])
	case 6, 7, 8:
		if n := noisy.below(64); pars(t, x, s, n, f.columns[191+n]) != api.OK {
			t.Error(n)
		}
	case 9:
		pars(t, x, s, noisy.below(70)-3, noisy.text(f.rows-1+noisy.below(3)))
	case 10:
		if noisy.below(3) == 0 {
			pads(t, x, s, noisy.below(f.padding()+1))
		}
		pads(t, x, s, 192+noisy.below(100))
	case 11:
		if noisy.below(4) == 0 {
			mendsBoth(t, "any call", x, s)
		}
	}
}
