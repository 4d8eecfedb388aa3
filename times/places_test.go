package times_test

import (
	"math"
	"testing"

	"clarion/api"
	"clarion/times"
)

// tables is how many rows there may be.
func tables() []int { return []int{256, 512, 768, 1024} }

// noTables is how many there may not be.
func noTables() []int {
	l := outside(256, 1024)
	for n := range 1300 {
		if n%256 != 0 || n == 0 || n > 1024 {
			l = append(l, n, -n)
		}
	}
	return append(l, -256, -512, -768, -1024, 1<<16+256, 1<<32+256, 1<<62)
}

// P9.3: each byte of each table, column by column.
func TestPlaceAndAtOfEachByte(t *testing.T) {
	for _, rows := range tables() {
		n := 0
		for column := range 191 {
			for row := range rows {
				p := complex(float64(row), float64(column))
				if got, e := times.Place(rows, n); got != p || e != api.OK {
					t.Fatalf("Place %d %d: %v, %v", rows, n, got, e)
				}
				if got := at(rows, p); got != (one{n: n}) {
					t.Fatalf("At %d %v: %v", rows, p, got)
				}
				n++
			}
		}
		for _, n := range outside(0, n-1) {
			if got := place(rows, n); got != (placed{e: api.ErrRange}) {
				t.Errorf("Place %d %d: %v", rows, n, got)
			}
		}
	}
}

// P9.3: the first byte and the last one, and those next to them; the last row of a column, and the first one of the next.
func TestPlacesByHand(t *testing.T) {
	for _, c := range []struct {
		rows, at int
		p        complex128
	}{
		{256, 0, 0}, {512, 0, 0}, {768, 0, 0}, {1024, 0, 0}, {256, 1, 1}, {1024, 1, 1},
		{256, 255, 255}, {256, 256, 1i}, {256, 257, 1 + 1i}, {512, 511, 511}, {512, 512, 1i}, {768, 767, 767}, {768, 768, 1i}, {768, 1000, 232 + 1i},
		{1024, 1023, 1023}, {1024, 1024, 1i}, {1024, 2047, 1023 + 1i}, {1024, 2048, 2i},
		{256, 48895, 255 + 190i}, {512, 97791, 511 + 190i}, {768, 146687, 767 + 190i}, {1024, 195583, 1023 + 190i}, {1024, 194560, 190i},
	} {
		if got, e := times.Place(c.rows, c.at); got != c.p || e != api.OK {
			t.Errorf("Place %d %d: %v, %v", c.rows, c.at, got, e)
		}
		if got := at(c.rows, c.p); got != (one{n: c.at}) {
			t.Errorf("At %d %v: %v", c.rows, c.p, got)
		}
	}
	for rows, n := range map[int]int{256: 48896, 512: 97792, 768: 146688, 1024: 195584} {
		for _, n := range []int{n, n + 1, -1, -rows, math.MinInt, math.MaxInt, 1<<32 + 1, 262143} {
			if got := place(rows, n); got != (placed{e: api.ErrRange}) {
				t.Errorf("Place %d %d: %v", rows, n, got)
			}
		}
	}
}

// noParts is what is no whole number from 0 to below an end.
func noParts(end int) []float64 {
	x := float64(end)
	return []float64{
		x, x + 1, 2 * x, math.Nextafter(x, 2*x), math.Nextafter(x, 0), x - 0.5, x + 0.5, -1, -2, -x, -0.5, 0.5, 1.5, 100.25, 0.1,
		math.Nextafter(1, 0), math.Nextafter(1, 2), math.SmallestNonzeroFloat64, -math.SmallestNonzeroFloat64, math.Nextafter(100, 0),
		1 << 31, 1 << 32, 1<<32 + 1, -1 << 32, 1 << 53, 1 << 63, 1 << 64, -1 << 63, -1 << 64, math.MaxFloat64, -math.MaxFloat64,
		math.Inf(1), math.Inf(-1), math.NaN(), math.Copysign(math.NaN(), -1),
	}
}

// P9.3: places one row or one column outside, of parts below 0, no whole numbers, infinite ones and no numbers.
func TestAtOfNoPlace(t *testing.T) {
	for _, rows := range tables() {
		for _, x := range noParts(rows) {
			for _, column := range append(noParts(191), 0, 1, 95, 190) {
				if got := at(rows, complex(x, column)); got != (one{e: api.ErrRange}) {
					t.Errorf("%d (%v, %v): %v", rows, x, column, got)
				}
			}
		}
		for _, x := range noParts(191) {
			for _, row := range append(noParts(rows), 0, 1, 95, float64(rows-1)) {
				if got := at(rows, complex(row, x)); got != (one{e: api.ErrRange}) {
					t.Errorf("%d (%v, %v): %v", rows, row, x, got)
				}
			}
		}
		if got := at(rows, complex(190, float64(rows-1))); got != (one{e: api.ErrRange}) {
			t.Errorf("%d, row and column in one another's place: %v", rows, got)
		}
	}
}

// P9.3: a 0 with a sign is 0, which is a row and a column.
func TestAtOfZeros(t *testing.T) {
	zero := math.Copysign(0, -1)
	for p, want := range map[complex128]int{complex(zero, zero): 0, complex(0, zero): 0, complex(zero, 1): 512, complex(3, zero): 3} {
		if got := at(512, p); got != (one{n: want}) {
			t.Errorf("%v: %v", p, got)
		}
	}
}

// P9.3: rows that may not be, with bytes and places that may be, and that may not: ErrArg is named first (R1).
func TestTablesThatMayNotBe(t *testing.T) {
	for _, rows := range noTables() {
		for _, n := range []int{0, 1, 100, rows, -1, 191 * rows, math.MaxInt, math.MinInt} {
			if got := place(rows, n); got != (placed{e: api.ErrArg}) {
				t.Errorf("Place %d %d: %v", rows, n, got)
			}
		}
		for _, p := range []complex128{0, 1, 1i, 1 + 1i, -1, -1i, 0.5, 191i, complex(float64(rows), 0), complex(math.NaN(), 0), complex(0, math.Inf(1))} {
			if got := at(rows, p); got != (one{e: api.ErrArg}) {
				t.Errorf("At %d %v: %v", rows, p, got)
			}
		}
	}
}
