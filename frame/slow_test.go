package frame_test

import (
	"slices"
	"strings"
	"testing"

	"clarion/api"
	"clarion/frame"
)

// The words of this chapter, and of those that it stands on, with sums, products and parity made anew, so that the package is not held against the layers that it stands on.

// one is a byte; two is a number of 16 bits as bytes, the high one first.
func one(n int) string { return string([]byte{byte(n)}) }
func two(n int) string { return one(n/256) + one(n%256) }

// numberOf is the number of two bytes, the high one first.
func numberOf(s string) int { return int(s[0])*256 + int(s[1]) }

// put is s with another byte at a place.
func put(s string, at, n int) string { return s[:at] + one(n) + s[at+1:] }

// nulls is so many bytes 0.
func nulls(n int) string { return strings.Repeat("\x00", n) }

// sumOf is the sum of a header: it has a number of bytes that is even.
func sumOf(s string) int {
	sum := 0
	for at := 0; at < len(s); at += 2 {
		sum += numberOf(s[at:])
		if sum > 65535 {
			sum -= 65535
		}
	}
	return 65535 - sum
}

// good4 is a datagram of version 4, whose header has four times so many bytes (5 at least); good6 is one of version 6.
func good4(words int, body string) string {
	ahead := one(64+words) + "\x00" + two(4*words+len(body)) + "\x12\x34\x40\x00\x40\x11"
	behind := "\x0a\x01\x02\x03\xe0\x04\x05\x06" + strings.Repeat("\x94\x04\x01\x07", words-5)
	return ahead + two(sumOf(ahead+behind)) + behind + body
}
func good6(body string) string {
	return "\x60\x00\x00\x00" + two(len(body)) + "\x11\x40" + strings.Repeat("\x20\x01from", 3)[:16] + strings.Repeat("\xff\x02 to ", 3)[:16] + body
}

// slowDatagram is what datagram.Check must answer.
func slowDatagram(s string) api.Errno {
	if s == "" {
		return api.ErrShort
	}
	version := int(s[0]) / 16
	least := map[int]int{4: 20, 6: 40}[version]
	switch {
	case least == 0:
		return api.ErrKind
	case len(s) < least:
		return api.ErrShort
	}
	header, long := int(s[0])%16*4, numberOf(s[2:4])
	if version == 6 {
		header, long = 40, 40+numberOf(s[4:6])
	}
	switch {
	case header < least || long < header:
		return api.ErrForm
	case long > 4080:
		return api.ErrRange
	case long > len(s):
		return api.ErrShort
	case long < len(s):
		return api.ErrLong
	case version == 4 && sumOf(s[:header]) != 0:
		return api.ErrSum
	}
	return api.OK
}

// product is that of two bytes, bit by bit.
func product(a, b int) int {
	p := 0
	for ; b > 0; b /= 2 {
		if b%2 == 1 {
			p ^= a
		}
		if a *= 2; a > 255 {
			a ^= 0x11d
		}
	}
	return p
}

// taps is what a byte that goes out turns in the 64 behind it, for each byte: the generator, times it, but for its highest coefficient.
var taps = func() (all [256][64]byte) {
	g := []int{1}
	for n, zero := 0, 1; n < 64; n, zero = n+1, product(zero, 2) {
		// The highest coefficient first: times x, and times the zero one place behind it.
		g = append(g, 0)
		for at := len(g) - 1; at > 0; at-- {
			g[at] ^= product(g[at-1], zero)
		}
	}
	for out := range all {
		for at := range all[out] {
			all[out][at] = byte(product(out, g[1+at]))
		}
	}
	return all
}()

// slowParity is the 64 bytes behind those of data that leave nothing: a long division.
func slowParity(data string) string {
	b := []byte(data + nulls(64))
	for at := range len(data) {
		for n, tap := range taps[b[at]] {
			b[at+1+n] ^= tap
		}
	}
	return string(b[len(data):])
}

// slow is a frame by the words: how it is, and its datagrams.
type slow struct {
	c frame.Config
	l []string
}

// both is a frame, and the same one by the words.
func both(t *testing.T, rows, columns, cut int) (*frame.Frame, *slow) {
	t.Helper()
	c := frame.Config{Rows: rows, Columns: columns, Cut: cut}
	f, e := frame.New(c)
	if f == nil || e != api.OK {
		t.Fatalf("%+v: %v", c, e)
	}
	return f, &slow{c: c}
}

// slowConfig is what Check must answer.
func slowConfig(c frame.Config) api.Errno {
	for many := 1; many < 5; many++ {
		if c.Rows == many*256 && c.Columns > 0 && c.Columns < 192 && c.Cut > -1 && c.Cut < 65 {
			return api.OK
		}
	}
	return api.ErrConfig
}

// text is the datagrams, one behind the other; used is how many bytes these are.
func (s *slow) text() string { return strings.Join(s.l, "") }
func (s *slow) used() int {
	n := 0
	for _, d := range s.l {
		n += len(d)
	}
	return n
}

// add is what Add must answer; then the datagram is among the others, if there is no error.
func (s *slow) add(d string) told {
	at := s.used()
	if e := slowDatagram(d); e != api.OK {
		return told{e: e}
	}
	if s.c.Rows*s.c.Columns < at+len(d) {
		return told{e: api.ErrFull}
	}
	s.l = append(s.l, d)
	return told{at: at}
}

// padding is how many columns, from the last one on, have no byte of a datagram.
func (s *slow) padding() int {
	n, used := 0, s.used()
	for n < 191 && (190-n)*s.c.Rows >= used {
		n++
	}
	return n
}

// placed is the datagrams, and how many bytes are ahead of each.
func (s *slow) placed() []frame.Placed {
	var out []frame.Placed
	ahead := 0
	for _, d := range s.l {
		out = append(out, frame.Placed{At: ahead, Text: d})
		ahead += len(d)
	}
	return out
}

// columns is all 255 columns, those of parity row by row.
func (s *slow) columns() []string {
	all := s.text() + nulls(191*s.c.Rows-len(s.text()))
	var out []string
	for ; all != ""; all = all[s.c.Rows:] {
		out = append(out, all[:s.c.Rows])
	}
	behind := make([][]byte, 64)
	for n := range s.c.Rows {
		parity := slowParity(rowOf(out[:191], n))
		for c := range behind {
			behind[c] = append(behind[c], parity[c])
		}
	}
	for _, c := range behind {
		out = append(out, string(c))
	}
	return out
}

// rowOf is the bytes that columns have in a row.
func rowOf(columns []string, n int) string {
	var b []byte
	for _, c := range columns {
		b = append(b, c[n])
	}
	return string(b)
}

// told is what Add answers, textOf what Column and Row do, to be held against another one at once.
type (
	told struct {
		at int
		e  api.Errno
	}
	textOf struct {
		text string
		e    api.Errno
	}
)

func added(f *frame.Frame, d string) told {
	at, e := f.Add(d)
	return told{at, e}
}

func column(f *frame.Frame, n int) textOf {
	s, e := f.Column(n)
	return textOf{s, e}
}

func row(f *frame.Frame, n int) textOf {
	s, e := f.Row(n)
	return textOf{s, e}
}

// adds holds Add against the words, and what Used, Padding and Placed answer behind it. It answers what the words say.
func adds(t *testing.T, f *frame.Frame, s *slow, d string) told {
	t.Helper()
	want := s.add(d)
	if got := added(f, d); got != want {
		t.Errorf("%+v, %d datagrams: Add of %d bytes %.12q: %+v, not %+v", s.c, len(s.l), len(d), d, got, want)
	}
	counts(t, f, s)
	return want
}

// fills adds datagrams that all must be taken, of so many bytes.
func fills(t *testing.T, f *frame.Frame, s *slow, longs ...int) {
	t.Helper()
	for n, long := range longs {
		if got := adds(t, f, s, datagramOf(long, byte('a'+n))); got.e != api.OK {
			t.Fatalf("%+v: the words say %v of the datagram %d", s.c, got.e, n)
		}
	}
}

// counts holds Used, Padding and Placed against the words.
func counts(t *testing.T, f *frame.Frame, s *slow) {
	t.Helper()
	if used, padding := f.Used(), f.Padding(); used != s.used() || padding != s.padding() {
		t.Errorf("%+v, %d datagrams: used %d, padding %d, not %d, %d", s.c, len(s.l), used, padding, s.used(), s.padding())
	}
	if got := f.Placed(); !slices.Equal(got, s.placed()) {
		t.Errorf("%+v, %d datagrams: %d placed", s.c, len(s.l), len(got))
	}
}

// tells holds what a frame has against the words: its counts, its columns of data, and of parity those that are sent.
func tells(t *testing.T, name string, f *frame.Frame, s *slow) {
	t.Helper()
	counts(t, f, s)
	all := s.columns()
	for n := range 191 {
		if got := column(f, n); got != (textOf{text: all[n]}) {
			t.Errorf("%s, %+v: column %d: %d bytes %.12q, %v", name, s.c, n, len(got.text), got.text, got.e)
		}
	}
	if got := f.Parity(); !slices.Equal(got, all[191:255-s.c.Cut]) {
		t.Errorf("%s, %+v: %d columns of parity, or others", name, s.c, len(got))
	}
}

// tellsAll holds all rows, too, and the columns of parity of these numbers, against the words.
func tellsAll(t *testing.T, name string, f *frame.Frame, s *slow, numbers ...int) {
	t.Helper()
	tells(t, name, f, s)
	all := s.columns()
	for n := range s.c.Rows {
		if got := row(f, n); got != (textOf{text: rowOf(all, n)}) {
			t.Errorf("%s, %+v: row %d: %d bytes %.12q, %v", name, s.c, n, len(got.text), got.text, got.e)
		}
	}
	for _, n := range numbers {
		if got := column(f, n); got != (textOf{text: all[n]}) {
			t.Errorf("%s, %+v: column %d: %d bytes %.12q, %v", name, s.c, n, len(got.text), got.text, got.e)
		}
	}
}

// datagramOf is a datagram of so many bytes, 20 at least, whose body is the same byte.
func datagramOf(long int, b byte) string {
	return good4(5, strings.Repeat(string([]byte{b}), long-20))
}

// noise is numbers that follow no rule to be seen, the same ones at each run.
type noise uint64

func (s *noise) below(n int) int {
	*s = *s*6364136223846793005 + 1442695040888963407
	return int((uint64(*s) ^ uint64(*s)>>29) >> 33 % uint64(n))
}

func (s *noise) text(long int) string {
	b := make([]byte, long)
	for i := range b {
		b[i] = byte(s.below(256))
	}
	return string(b)
}

// datagram is any one of up to so many bytes, 60 at least.
func (s *noise) datagram(most int) string {
	if s.below(3) == 0 {
		return good6(s.text(s.below(most - 40 + 1)))
	}
	words := 5 + s.below(11)
	return good4(words, s.text(s.below(most-4*words+1)))
}

// config is any one that may be.
func (s *noise) config() frame.Config {
	return frame.Config{Rows: 256 + 256*s.below(4), Columns: 1 + s.below(191), Cut: s.below(65)}
}

// allRows is how many rows a frame may have.
func allRows() []int { return []int{256, 512, 768, 1024} }
