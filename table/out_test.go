package table_test

import (
	"slices"
	"strings"
	"testing"

	"clarion/api"
	"clarion/table"
)

// none is bytes that begin with no datagram, whatever is behind them, or for want of what is behind them.
func none() map[string]string {
	four, six := good4(5, "body"), good6("body")
	long4, long6 := good4(5, strings.Repeat("x", 4061)), good6(strings.Repeat("x", 4041))
	return map[string]string{
		"bytes 0": nulls(300), "a byte": "x", "another version": "\x55" + four[1:], "a third one": "\xf0" + six[1:], "version 0": "\x05" + four[1:],
		"few bytes of 4": four[:19], "a header of 4": four[:20], "one byte missing of 4": four[:23], "few bytes of 6": six[:39], "a header of 6": six[:40], "one byte missing of 6": six[:43],
		"a short header": "\x44" + four[1:], "a length below the header": head4(5, 19), "a long header, cut": good4(15, "")[:59], "a length below a long header": head4(6, 23) + "xxxx",
		"4081 bytes of 4": long4, "4081 bytes of 6": long6, "65535 bytes": head4(5, 65535) + strings.Repeat("x", 4100), "65575 bytes": head6(65535) + strings.Repeat("x", 4100),
		"a sum": put(four, 9, 6), "another sum": put(four, 11, int(four[11])^1), "the sum of a long header": put(good4(15, ""), 59, 0),
	}
}

// tellsOut holds Out against what is to be out, and both against the words.
func tellsOut(t *testing.T, name string, x *table.Table, s *slow, want ...table.Placed) {
	t.Helper()
	tells(t, name, x, s)
	if got := x.Out(); !slices.Equal(got, want) {
		t.Errorf("%s, %d rows: %d datagrams, not %d, or others", name, len(s.rows), len(got), len(want))
	}
}

// P13.2: Out of no datagram: of nothing, of bytes 0, of bytes that are none, and of starts at which there is none.
func TestOutOfNone(t *testing.T) {
	for _, rows := range allRows() {
		x, s := both(t, rows)
		tellsOut(t, "nothing", x, s)
		for name, text := range none() {
			x, s := both(t, rows)
			puts(t, x, s, 0, text)
			tellsOut(t, name+" at 0", x, s)
			x, s = both(t, rows)
			puts(t, x, s, 700, text)
			puts(t, x, s, 191*rows-len(text), text)
			tellsOut(t, name+" elsewhere", x, s)
		}
		x, s = both(t, rows)
		pads(t, x, s, 191)
		tellsOut(t, "padding", x, s)
		puts(t, x, s, 0, nulls(191*rows))
		tellsOut(t, "bytes 0", x, s)
	}
}

// P13.2: bytes that begin with no datagram are passed over to the next start: what is behind them is told, in order.
func TestOutBehindNone(t *testing.T) {
	a, b := datagramOf(50, 'a'), good6("bbb")
	for name, text := range none() {
		x, s := both(t, 256)
		puts(t, x, s, 9000, b)
		puts(t, x, s, 4000, a)
		// What is missing of it stays missing, as a byte behind it is not known.
		puts(t, x, s, 4500, text)
		tellsOut(t, name, x, s, table.Placed{At: 4000, Text: a}, table.Placed{At: 9000, Text: b})
	}
}

// P13.2: datagrams one behind the other, from the place 0 on, are told, be they put at once, or byte by byte, so that each place is a start.
func TestOutOfOneRun(t *testing.T) {
	noisy := noise(41)
	for _, rows := range allRows() {
		var want []table.Placed
		all := ""
		for n := range 30 {
			d := noisy.datagram(60 + 40*n)
			want = append(want, table.Placed{At: len(all), Text: d})
			all += d
		}
		x, s := both(t, rows)
		puts(t, x, s, 0, all)
		tellsOut(t, "at once", x, s, want...)
		x, s = both(t, rows)
		for n := len(all) - 1; n >= 0; n-- {
			puts(t, x, s, n, all[n:n+1])
		}
		tellsOut(t, "byte by byte", x, s, want...)
		pads(t, x, s, 150)
		tellsOut(t, "padded", x, s, want...)
	}
}

// P13.2: a datagram behind a byte that is none is told only if its place is a start; any bytes that are put there make it one.
func TestOutWithoutStarts(t *testing.T) {
	d := datagramOf(300, 'd')
	for _, ahead := range []int{1, 2, 100, 256, 4080, 5000} {
		for _, at := range []int{ahead, 7000} {
			x, s := both(t, 256)
			puts(t, x, s, at-ahead, nulls(ahead)+d+"xx")
			tellsOut(t, "no start", x, s)
			puts(t, x, s, at-1, "\x00")
			puts(t, x, s, at+1, d[1:])
			tellsOut(t, "starts beside it", x, s)
			puts(t, x, s, at, d[:1])
			tellsOut(t, "a start", x, s, table.Placed{At: at, Text: d})
		}
	}
}

// P13.2: a datagram that ends just at the end of the data is told; one whose last byte would be behind it is not.
func TestOutAtTheEnd(t *testing.T) {
	for _, rows := range allRows() {
		size := 191 * rows
		for _, d := range []string{datagramOf(20, 0), datagramOf(21, 'x'), good4(15, ""), good6(""), good6("six"), datagramOf(4080, 'x'), datagramOf(rows, 'r')} {
			x, s := both(t, rows)
			puts(t, x, s, size-len(d), d)
			tellsOut(t, "the end", x, s, table.Placed{At: size - len(d), Text: d})
			x, s = both(t, rows)
			puts(t, x, s, size-len(d)+1, d[:len(d)-1])
			// Parity is behind the last column, but no byte of a datagram is there.
			for n := range 64 {
				pars(t, x, s, n, strings.Repeat(d[len(d)-1:], rows))
			}
			tellsOut(t, "behind the end", x, s)
		}
	}
}

// P13.2: a table that is full of datagrams, up to its end.
func TestOutOfAFullTable(t *testing.T) {
	for _, rows := range allRows() {
		x, s := both(t, rows)
		var want []table.Placed
		n := 0
		for left := 191 * rows; left > 0; left = 191*rows - n {
			d := datagramOf(min(left, 40), 'f')
			if left-len(d) < 20 {
				d = datagramOf(left, 'f')
			}
			want = append(want, table.Placed{At: n, Text: d})
			puts(t, x, s, n, d)
			n += len(d)
		}
		tellsOut(t, "full", x, s, want...)
	}
}

// P13.2: a datagram whose end is not known is not told, be one byte unknown or many, at its end or within; and the next start is.
func TestOutOfAnUnknownEnd(t *testing.T) {
	// The body's bytes begin no datagram, whatever is behind them.
	a, b := datagramOf(300, 'z'), good6("bbb")
	for _, cut := range []int{1, 2, 10, 19, 20, 21, 44, 255, 256, 257, 290, 298, 299} {
		for _, at := range []int{0, 100, 256, 500} {
			x, s := both(t, 256)
			puts(t, x, s, at, a[:cut])
			puts(t, x, s, at+cut+1, a[cut+1:])
			puts(t, x, s, at+300, b)
			tellsOut(t, "one byte", x, s, table.Placed{At: at + 300, Text: b})
			puts(t, x, s, at+cut, a[cut:cut+1])
			tellsOut(t, "known", x, s, table.Placed{At: at, Text: a}, table.Placed{At: at + 300, Text: b})
			x, s = both(t, 256)
			puts(t, x, s, at, a[:cut])
			tellsOut(t, "the rest", x, s)
		}
	}
}

// P13.2: starts within datagrams that are told are passed over, even if there is a datagram there; so are those within, if that one ends behind them.
func TestOutOfStartsWithin(t *testing.T) {
	inner := datagramOf(40, 'i')
	a := good4(5, "before"+inner+"after")
	b := good6(inner + inner)
	for _, at := range []int{0, 300} {
		x, s := both(t, 256)
		puts(t, x, s, at, a+b)
		for _, within := range []int{at + 1, at + 26, at + len(a) - 1, at + len(a) + 40, at + len(a) + 80, at + len(a) + len(b) - 1} {
			puts(t, x, s, within, (a + b)[within-at:within-at+1])
		}
		tellsOut(t, "within", x, s, table.Placed{At: at, Text: a}, table.Placed{At: at + len(a), Text: b})
		// The outer ones being none, the inner ones are told: their places are starts.
		puts(t, x, s, at, "\x00")
		puts(t, x, s, at+len(a), "\x00")
		tellsOut(t, "told", x, s, table.Placed{At: at + 26, Text: inner}, table.Placed{At: at + len(a) + 40, Text: inner}, table.Placed{At: at + len(a) + 80, Text: inner})
	}
}

// P13.2: the place behind a datagram that is told is looked at, though it is no start; the next start behind it is the least one.
func TestOutGoesOn(t *testing.T) {
	a, b, c := datagramOf(60, 'a'), good6("bbb"), datagramOf(20, 0)
	x, s := both(t, 256)
	puts(t, x, s, 5000, c)
	puts(t, x, s, 2000, a+b+"xxx"+c)
	puts(t, x, s, 3000, b)
	puts(t, x, s, 2500, "\x45")
	tellsOut(t, "goes on", x, s, table.Placed{At: 2000, Text: a}, table.Placed{At: 2060, Text: b}, table.Placed{At: 3000, Text: b}, table.Placed{At: 5000, Text: c})
	puts(t, x, s, 2060+len(b)+3, c[:1])
	tellsOut(t, "a start more", x, s, table.Placed{At: 2000, Text: a}, table.Placed{At: 2060, Text: b}, table.Placed{At: 2063 + len(b), Text: c}, table.Placed{At: 3000, Text: b}, table.Placed{At: 5000, Text: c})
}

// P13.2: of bytes that are more than a datagram may have, one of 4080 bytes is told, of 4081 none is, of both versions.
func TestOutOfLongOnes(t *testing.T) {
	for _, rows := range allRows() {
		for _, at := range []int{0, 1000} {
			for _, d := range []string{datagramOf(4080, 'x'), good6(strings.Repeat("x", 4040)), good4(15, strings.Repeat("x", 4020))} {
				x, s := both(t, rows)
				puts(t, x, s, at, d+strings.Repeat("y", 5000))
				tellsOut(t, "4080", x, s, table.Placed{At: at, Text: d})
			}
			for _, d := range []string{datagramOf(4081, 'x'), good6(strings.Repeat("x", 4041)), good4(15, strings.Repeat("x", 4021)), datagramOf(9000, 'x')} {
				x, s := both(t, rows)
				puts(t, x, s, at, d+strings.Repeat("y", 5000))
				tellsOut(t, "4081", x, s)
			}
		}
	}
}

// P13.2: what Mend has found is told, too: datagrams of which some bytes, or all, were not known; with no start at them.
func TestOutOfWhatMendFinds(t *testing.T) {
	l := []string{datagramOf(300, 'a'), good6("six"), datagramOf(20, 0), datagramOf(2000, 'b'), good4(15, "end")}
	for _, rows := range allRows() {
		f := frameOf(rows, l...)
		for missing := range l {
			if rows > 256 && missing != rows/256 {
				continue
			}
			x, s := both(t, rows)
			var known []table.Placed
			for n, p := range f.placed {
				if n != missing {
					puts(t, x, s, p.At, p.Text)
					known = append(known, p)
				}
			}
			pads(t, x, s, f.padding())
			for n := range 20 {
				pars(t, x, s, n, f.columns[191+n])
			}
			tellsOut(t, "ahead of Mend", x, s, known...)
			if got := mendsBoth(t, "found", x, s); got.failed != 0 {
				t.Errorf("the words say %+v", got)
			}
			tellsOut(t, "behind Mend", x, s, f.placed...)
		}
	}
}

// P13.2, R2: what is done with Out's answer turns nothing in the table, nor in another answer; what is done with the table turns no answer.
func TestAnswersAreTheCallers(t *testing.T) {
	x, s := both(t, 256)
	a, b, c := datagramOf(100, 'a'), good6("bbb"), datagramOf(20, 0)
	puts(t, x, s, 0, a+b)
	puts(t, x, s, 700, c)
	first, second := x.Out(), x.Out()
	kept := slices.Clone(second)
	for n := range first {
		first[n] = table.Placed{At: 99, Text: "x"}
	}
	_ = append(first[:1], table.Placed{At: 98})
	if !slices.Equal(second, kept) {
		t.Error("another answer was turned")
	}
	tellsOut(t, "turned", x, s, kept...)
	puts(t, x, s, 0, nulls(1000))
	tellsOut(t, "put over", x, s)
	if !slices.Equal(second, kept) {
		t.Error("what is put turned an answer")
	}
	x.Mend()
	x.Clear()
	x.Put(0, datagramOf(2000, 'z'))
	if !slices.Equal(second, kept) {
		t.Error("Clear turned an answer")
	}
}

// P13.2: as many starts as there are places, most of them of no datagram, and as many datagrams as there may be.
func TestOutOfVeryMany(t *testing.T) {
	x, e := table.New(1024)
	if e != api.OK {
		t.Fatal(e)
	}
	for n := range 191 * 1024 {
		x.Put(n, "\x45\x45\x0f\xf0"[n%4:n%4+1])
	}
	if got := x.Out(); len(got) != 0 {
		t.Errorf("%d", len(got))
	}
	d := datagramOf(20, 0)
	for n := range 9779 {
		x.Put(20*n, d)
	}
	l := x.Out()
	if len(l) != 9779 {
		t.Fatal(len(l))
	}
	for n, p := range l {
		if p != (table.Placed{At: 20 * n, Text: d}) {
			t.Fatalf("%d: %+v", n, p)
		}
	}
}
