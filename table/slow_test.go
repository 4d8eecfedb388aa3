package table_test

import (
	"maps"
	"slices"
	"strings"
	"testing"

	"clarion/api"
	"clarion/mend"
	"clarion/table"
)

// The words of this chapter, and of datagrams and parity, with sums and products made anew. What is near a word is mend's to tell, as the chapter says; rows of which it is known what they were are held against that.

// one is a byte; two is a number of 16 bits as bytes, the high one first.
func one(n int) string { return string([]byte{byte(n)}) }
func two(n int) string { return one(n/256) + one(n%256) }

// put is s with another byte at a place.
func put(s string, at, n int) string { return s[:at] + one(n) + s[at+1:] }

// nulls is so many bytes 0.
func nulls(n int) string { return strings.Repeat("\x00", n) }

// sumOf is the sum of a header: it has a number of bytes that is even.
func sumOf(s string) int {
	sum := 0
	for at := 0; at < len(s); at += 2 {
		sum += int(s[at])*256 + int(s[at+1])
		if sum > 65535 {
			sum -= 65535
		}
	}
	return 65535 - sum
}

// head4 is a header of version 4, of four times so many bytes (5 at least), that says any length; head6 is one of version 6, that says any number.
func head4(words, long int) string {
	ahead := one(64+words) + "\x00" + two(long) + "\x12\x34\x40\x00\x40\x11"
	behind := "\x0a\x01\x02\x03\xe0\x04\x05\x06" + strings.Repeat("\x94\x04\x01\x07", words-5)
	return ahead + two(sumOf(ahead+behind)) + behind
}
func head6(beyond int) string {
	return "\x60\x00\x00\x00" + two(beyond) + "\x11\x40" + strings.Repeat("\x20\x01from", 3)[:16] + strings.Repeat("\xff\x02 to ", 3)[:16]
}

// good4 and good6 are datagrams.
func good4(words int, body string) string { return head4(words, 4*words+len(body)) + body }
func good6(body string) string            { return head6(len(body)) + body }

// datagramOf is a datagram of so many bytes, 20 at least, whose body is the same byte.
func datagramOf(long int, b byte) string {
	return good4(5, strings.Repeat(string([]byte{b}), long-20))
}

// slowFirst is the datagram with which bytes begin, or nothing.
func slowFirst(s string) string {
	if len(s) < 20 {
		return ""
	}
	header, long := int(s[0])%16*4, int(s[2])*256+int(s[3])
	switch int(s[0]) / 16 {
	case 4:
		if header < 20 || long < header || len(s) < long || sumOf(s[:header]) != 0 {
			return ""
		}
	case 6:
		long = int(s[4])*256 + int(s[5]) + 40
		if len(s) < long {
			return ""
		}
	default:
		return ""
	}
	if long > 4080 {
		return ""
	}
	return s[:long]
}

// product is that of two bytes, bit by bit.
func product(a, b int) int {
	p := 0
	for ; b > 0; b /= 2 {
		if b%2 == 1 {
			p ^= a
		}
		if a *= 2; a > 255 {
			a ^= 0x11d
		}
	}
	return p
}

// taps is what a byte that goes out turns in the 64 behind it, for each byte: the generator, times it, but for its highest coefficient.
var taps = func() (all [256][64]byte) {
	g := []int{1}
	for n, zero := 0, 1; n < 64; n, zero = n+1, product(zero, 2) {
		// The highest coefficient first: times x, and times the zero one place behind it.
		g = append(g, 0)
		for at := len(g) - 1; at > 0; at-- {
			g[at] ^= product(g[at-1], zero)
		}
	}
	for out := range all {
		for at := range all[out] {
			all[out][at] = byte(product(out, g[1+at]))
		}
	}
	return all
}()

// slowParity is the 64 bytes behind those of data that leave nothing: a long division.
func slowParity(data string) string {
	b := []byte(data + nulls(64))
	for at := range len(data) {
		for n, tap := range taps[b[at]] {
			b[at+1+n] ^= tap
		}
	}
	return string(b[len(data):])
}

// slow is a table by the words: its rows' bytes, those that are not known being below 0, and the starts.
type slow struct {
	rows   [][]int
	starts map[int]bool
}

// empty is a table by the words of which no byte is known.
func empty(rows int) *slow {
	s := &slow{starts: map[int]bool{}}
	for range rows {
		s.rows = append(s.rows, slices.Repeat([]int{-1}, 255))
	}
	return s
}

// both is a table, and the same one by the words.
func both(t *testing.T, rows int) (*table.Table, *slow) {
	t.Helper()
	x, e := table.New(rows)
	if x == nil || e != api.OK {
		t.Fatalf("%d: %v", rows, e)
	}
	return x, empty(rows)
}

// size is how many bytes of data there are; set makes one of them known.
func (s *slow) size() int        { return 191 * len(s.rows) }
func (s *slow) set(n int, b int) { s.rows[n%len(s.rows)][n/len(s.rows)] = b }
func (s *slow) get(n int) int    { return s.rows[n%len(s.rows)][n/len(s.rows)] }
func (s *slow) known(n int) bool { return n >= 0 && n < s.size() && s.get(n) >= 0 }

// put is what Put must answer; so are those below, each for its call.
func (s *slow) put(at int, text string) api.Errno {
	if at < 0 || at > s.size() || at+len(text) > s.size() {
		return api.ErrRange
	}
	for i := range len(text) {
		s.set(at+i, int(text[i]))
		s.starts[at] = true
	}
	return api.OK
}

func (s *slow) parity(n int, text string) api.Errno {
	if n < 0 || n > 63 {
		return api.ErrRange
	}
	if len(text) != len(s.rows) {
		return api.ErrForm
	}
	for i := range len(text) {
		s.rows[i][191+n] = int(text[i])
	}
	return api.OK
}

func (s *slow) pad(columns int) api.Errno {
	if columns < 0 || columns > 191 {
		return api.ErrRange
	}
	for _, r := range s.rows {
		for n := 191 - columns; n < 191; n++ {
			r[n] = max(r[n], 0)
		}
	}
	return api.OK
}

func (s *slow) at(n int) (byte, bool) {
	if !s.known(n) {
		return 0, false
	}
	return byte(s.get(n)), true
}

func (s *slow) lost(row int) (int, api.Errno) {
	if row < 0 || row >= len(s.rows) {
		return 0, api.ErrRange
	}
	return len(unknown(s.rows[row])), api.OK
}

// unknown is the places of a row whose bytes are not known.
func unknown(row []int) []int {
	var out []int
	for n, b := range row {
		if b < 0 {
			out = append(out, n)
		}
	}
	return out
}

func (s *slow) mend() (mended, failed int) {
	for _, r := range s.rows {
		lost := unknown(r)
		if len(lost) == 0 {
			continue
		}
		text := make([]byte, 255)
		for n, b := range r {
			text[n] = byte(max(b, 0))
		}
		word, _, e := mend.Word(string(text), lost)
		if len(lost) > 64 || e != api.OK {
			failed++
			continue
		}
		mended++
		for n := range r {
			r[n] = int(word[n])
		}
	}
	return mended, failed
}

func (s *slow) out() []table.Placed {
	var out []table.Placed
	starts := slices.Sorted(maps.Keys(s.starts))
	for at := 0; ; {
		var known []byte
		for n := at; s.known(n) && len(known) < 4080; n++ {
			known = append(known, byte(s.get(n)))
		}
		if d := slowFirst(string(known)); d != "" {
			out = append(out, table.Placed{At: at, Text: d})
			at += len(d)
			continue
		}
		for len(starts) > 0 && starts[0] <= at {
			starts = starts[1:]
		}
		if len(starts) == 0 {
			return out
		}
		at = starts[0]
	}
}

// counted is what Lost and Mend answer, byteOf what At does, to be held against another one at once.
type (
	counted struct {
		n int
		e api.Errno
	}
	mending struct{ mended, failed int }
	byteOf  struct {
		b  byte
		is bool
	}
)

func lost(x interface {
	Lost(int) (int, api.Errno)
}, row int) counted {
	n, e := x.Lost(row)
	return counted{n, e}
}

func mends(x interface{ Mend() (int, int) }) mending {
	mended, failed := x.Mend()
	return mending{mended, failed}
}

func at(x interface{ At(int) (byte, bool) }, n int) byteOf {
	b, is := x.At(n)
	return byteOf{b, is}
}

// puts, pars and pads do the same with both tables, and hold the answers against one another. They answer what the words say.
func puts(t *testing.T, x *table.Table, s *slow, n int, text string) api.Errno {
	t.Helper()
	want := s.put(n, text)
	if got := x.Put(n, text); got != want {
		t.Errorf("%d rows: Put of %d bytes at %d: %v, not %v", len(s.rows), len(text), n, got, want)
	}
	return want
}

func pars(t *testing.T, x *table.Table, s *slow, n int, text string) api.Errno {
	t.Helper()
	want := s.parity(n, text)
	if got := x.Parity(n, text); got != want {
		t.Errorf("%d rows: Parity %d of %d bytes: %v, not %v", len(s.rows), n, len(text), got, want)
	}
	return want
}

func pads(t *testing.T, x *table.Table, s *slow, columns int) api.Errno {
	t.Helper()
	want := s.pad(columns)
	if got := x.Pad(columns); got != want {
		t.Errorf("%d rows: Pad of %d: %v, not %v", len(s.rows), columns, got, want)
	}
	return want
}

// mendsBoth has both tables mended, and holds what they answer against one another.
func mendsBoth(t *testing.T, name string, x *table.Table, s *slow) mending {
	t.Helper()
	mended, failed := s.mend()
	want := mending{mended, failed}
	if got := mends(x); got != want {
		t.Errorf("%s, %d rows: Mend: %+v, not %+v", name, len(s.rows), got, want)
	}
	tells(t, name+", mended", x, s)
	return want
}

// tells holds what a table tells against the words: each byte of data, how many are lost of each row, what is out.
func tells(t *testing.T, name string, x *table.Table, s *slow) {
	t.Helper()
	for n := -1; n <= s.size(); n++ {
		b, is := s.at(n)
		if got := at(x, n); got != (byteOf{b, is}) {
			t.Fatalf("%s, %d rows: At of %d: %+v, not %d, %t", name, len(s.rows), n, got, b, is)
		}
	}
	for n := -1; n <= len(s.rows); n++ {
		many, e := s.lost(n)
		if got := lost(x, n); got != (counted{many, e}) {
			t.Fatalf("%s, %d rows: Lost of %d: %+v, not %d, %v", name, len(s.rows), n, got, many, e)
		}
	}
	if got, want := x.Out(), s.out(); !slices.Equal(got, want) {
		t.Fatalf("%s, %d rows: Out: %d datagrams, not %d, or others", name, len(s.rows), len(got), len(want))
	}
}

// sent is a frame by the words: its datagrams, with their places, and its 255 columns.
type sent struct {
	rows    int
	placed  []table.Placed
	columns []string
}

// frameOf is the frame of datagrams.
func frameOf(rows int, l ...string) *sent {
	f := &sent{rows: rows}
	all := ""
	for _, d := range l {
		f.placed = append(f.placed, table.Placed{At: len(all), Text: d})
		all += d
	}
	all += nulls(191*rows - len(all))
	for ; all != ""; all = all[rows:] {
		f.columns = append(f.columns, all[:rows])
	}
	behind := make([][]byte, 64)
	for n := range rows {
		parity := slowParity(f.row(n, 191))
		for c := range behind {
			behind[c] = append(behind[c], parity[c])
		}
	}
	for _, c := range behind {
		f.columns = append(f.columns, string(c))
	}
	return f
}

// row is the bytes that the first columns have in a row.
func (f *sent) row(n, columns int) string {
	var b []byte
	for _, c := range f.columns[:columns] {
		b = append(b, c[n])
	}
	return string(b)
}

// data is the columns of data, one behind the other.
func (f *sent) data() string { return strings.Join(f.columns[:191], "") }

// padding is how many columns have no byte of a datagram.
func (f *sent) padding() int {
	used := 0
	for _, p := range f.placed {
		used += len(p.Text)
	}
	return 191 - (used+f.rows-1)/f.rows
}

// gives puts into both tables what is not lost of the data, all of each run at once, and of parity the columns of these numbers.
func (f *sent) gives(t *testing.T, x *table.Table, s *slow, lost [][]int, parity ...int) {
	t.Helper()
	known := make([]bool, 191*f.rows)
	for n := range known {
		known[n] = !slices.Contains(lost[n%f.rows], n/f.rows)
	}
	data := f.data()
	for n := 0; n < len(known); n++ {
		end := n
		for end < len(known) && known[end] {
			end++
		}
		if end > n {
			puts(t, x, s, n, data[n:end])
		}
		n = end
	}
	for _, n := range parity {
		pars(t, x, s, n, f.columns[191+n])
	}
}

// noise is numbers that follow no rule to be seen, the same ones at each run.
type noise uint64

func (s *noise) below(n int) int {
	*s = *s*6364136223846793005 + 1442695040888963407
	return int((uint64(*s) ^ uint64(*s)>>29) >> 33 % uint64(n))
}

func (s *noise) text(long int) string {
	b := make([]byte, long)
	for i := range b {
		b[i] = byte(s.below(256))
	}
	return string(b)
}

// datagram is any one of up to so many bytes, 60 at least.
func (s *noise) datagram(most int) string {
	if s.below(3) == 0 {
		return good6(s.text(s.below(most - 40 + 1)))
	}
	words := 5 + s.below(11)
	return good4(words, s.text(s.below(most-4*words+1)))
}

// frame is one of so many rows, whose datagrams, of up to so many bytes each, fill any part of it.
func (s *noise) frame(rows, most int) *sent {
	var l []string
	for left := 60 + s.below(191*rows-59); left >= 60; {
		l = append(l, s.datagram(min(left, most)))
		left -= len(l[len(l)-1])
	}
	return frameOf(rows, l...)
}

// count is the numbers from one on, below another one.
func count(from, to int) []int {
	var out []int
	for n := from; n < to; n++ {
		out = append(out, n)
	}
	return out
}

// places is any n of the numbers below most, rising or not, each once.
func (s *noise) places(n, most int) []int {
	all := count(0, most)
	for i := range n {
		j := i + s.below(most-i)
		all[i], all[j] = all[j], all[i]
	}
	return all[:n]
}

// allRows is how many rows a table may have.
func allRows() []int { return []int{256, 512, 768, 1024} }
