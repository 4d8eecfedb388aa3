package bits_test

import (
	"math"
	"slices"
	"strings"
	"testing"

	"clarion/api"
	"clarion/bits"
)

// The calls as the chapter lists them: with another signature this file does not build.
var (
	_ func(*bits.Out, uint64, int) api.Errno = (*bits.Out).Put
	_ func(*bits.Out, ...string)             = (*bits.Out).Text
	_ func(*bits.Out) int                    = (*bits.Out).Len
	_ func(*bits.Out) string                 = (*bits.Out).String
	_ func(string) *bits.In                  = bits.Read
	_ func(*bits.In, int) uint64             = (*bits.In).Get
	_ func(*bits.In, int) string             = (*bits.In).Text
	_ func(*bits.In) int                     = (*bits.In).At
	_ func(*bits.In) int                     = (*bits.In).Left
	_ func(*bits.In) api.Errno               = (*bits.In).Err
)

// The chapter's examples, as they stand there.
func TestExamples(t *testing.T) {
	var o bits.Out
	o.Put(5, 3)
	o.Put(1, 2)
	if got := o.String(); got != "\xa8" {
		t.Errorf("String: %q", got)
	}
	i := bits.Read(o.String())
	if got := i.Get(3); got != 5 || i.Err() != api.OK {
		t.Error("Get(3):", got, i.Err())
	}
	if got := i.Get(9); got != 0 || i.Err() != api.ErrShort {
		t.Error("Get(9):", got, i.Err())
	}
}

// P6.1: a zero Out has no bits, however it came to be.
func TestZeroOut(t *testing.T) {
	var o bits.Out
	var row [2]bits.Out
	for _, z := range []*bits.Out{&o, {}, new(bits.Out), &row[1]} {
		wrote(t, z, "")
		if e := z.Put(0x80, 8); e != api.OK {
			t.Fatal(e)
		}
		wrote(t, z, "10000000")
	}
}

// P6.1: each number of bits that may be, of each number, alone and behind others.
func TestPut(t *testing.T) {
	for _, x := range numbers() {
		for n := range 65 {
			var o bits.Out
			if e := o.Put(x, n); e != api.OK {
				t.Fatalf("Put(%#x, %d): %v", x, n, e)
			}
			wrote(t, &o, signs(x, n))
			o.Put(^x, n)
			wrote(t, &o, signs(x, n)+signs(^x, n))
		}
	}
}

// P6.1: at each place of a byte.
func TestPutBetweenBytes(t *testing.T) {
	for ahead := range 17 {
		for _, x := range []uint64{0, math.MaxUint64, 0xa5a5a5a5a5a5a5a5, 0x0123456789abcdef} {
			for _, n := range []int{0, 1, 2, 7, 8, 9, 15, 16, 17, 31, 33, 63, 64} {
				var o bits.Out
				o.Put(0x15555, ahead)
				if e := o.Put(x, n); e != api.OK {
					t.Fatal(e)
				}
				o.Put(5, 3)
				wrote(t, &o, signs(0x15555, ahead)+signs(x, n)+"101")
			}
		}
	}
}

// P6.1: the bits that are not asked for do not count, in what is written and in what is written behind.
func TestPutOfMoreBitsThanAreWritten(t *testing.T) {
	for n := range 64 {
		var o, other bits.Out
		for range 3 {
			o.Put(math.MaxUint64<<n, n)
			other.Put(0, n)
			o.Put(math.MaxUint64, 0)
		}
		wrote(t, &o, strings.Repeat("0", 3*n))
		if o.String() != other.String() {
			t.Errorf("%d: %q, %q", n, o.String(), other.String())
		}
	}
}

// P6.1, R1: the error leaves the bits as they were, and what is written behind them.
func TestPutOfNumbersOfBitsThatMayNotBe(t *testing.T) {
	for ahead := range 20 {
		var o bits.Out
		o.Put(0x2aaaa, ahead)
		for _, n := range none() {
			for _, x := range []uint64{0, 9, math.MaxUint64} {
				if e := o.Put(x, n); e != api.ErrArg {
					t.Fatalf("Put(%d, %d): %v", x, n, e)
				}
				wrote(t, &o, signs(0x2aaaa, ahead))
			}
		}
		if e := o.Put(6, 3); e != api.OK {
			t.Fatal(e)
		}
		wrote(t, &o, signs(0x2aaaa, ahead)+"110")
	}
}

// P6.1: no part, empty ones, one and several, at whole bytes and between them.
func TestText(t *testing.T) {
	s := noise(5)
	lists := [][]string{
		nil, {}, {""}, {"", "", ""}, {"A"}, {"", "A", ""}, {"A", "", "B"}, {"\x00"}, {"\xff", "\x00", "\xff"},
		{"\x80", "\x01"}, {"cla", "ri", "on"}, {"\xe2\x82\xac", "\xc3\xa9"}, {s.text(300), s.text(1), s.text(77)},
	}
	for ahead := range 25 {
		for _, l := range lists {
			var o bits.Out
			o.Put(0x1555555, ahead)
			want := signs(0x1555555, ahead) + signsOf(strings.Join(l, ""))
			o.Text(l...)
			wrote(t, &o, want)
			o.Put(1, 1)
			wrote(t, &o, want+"1")
		}
	}
}

// P6.1: each byte, at each place of a byte.
func TestTextOfEachByte(t *testing.T) {
	for n := range 256 {
		for ahead := range 8 {
			var o bits.Out
			o.Put(0, ahead)
			o.Text(string([]byte{byte(n)}))
			wrote(t, &o, strings.Repeat("0", ahead)+signs(uint64(n), 8))
		}
	}
}

// P6.1: texts of every length, and long ones, behind one another.
func TestTextOfEachLength(t *testing.T) {
	s := noise(7)
	for long := range 520 {
		text := s.text(long)
		for _, ahead := range []int{0, 3} {
			var o bits.Out
			o.Put(5, ahead)
			o.Text(text, "x")
			wrote(t, &o, signs(5, ahead)+signsOf(text+"x"))
		}
	}
	var o bits.Out
	var all strings.Builder
	for _, long := range []int{100000, 1, 4096, 188, 65536} {
		text := s.text(long)
		o.Text(text)
		all.WriteString(text)
	}
	if o.String() != all.String() || o.Len() != 8*all.Len() {
		t.Error("long texts:", o.Len())
	}
}

// P6.1: as few bits 0 as make whole bytes: 0, 1, 7, 8, 9 bits, and all others up to some blocks.
func TestString(t *testing.T) {
	for n, want := range map[int]string{0: "", 1: "\x80", 7: "\xfe", 8: "\xff", 9: "\xff\x80"} {
		var o bits.Out
		o.Put(math.MaxUint64, n)
		if o.String() != want || o.String() != want || o.Len() != n {
			t.Errorf("%d bits: %q", n, o.String())
		}
	}
	var one bits.Out
	all := ""
	for n := range 5000 {
		if n%7 == 0 || n%1024 < 9 || n%1024 > 1015 {
			wrote(t, &one, all)
		}
		bit := signs(uint64(n*n/3+n/8), 1)
		one.Put(number(bit), 1)
		all += bit
	}
}

// P6.1: what is written behind String stands behind the bits, not behind the bits 0 at their end; what was answered stays.
func TestWrittenOnBehindString(t *testing.T) {
	for _, n := range []int{0, 1, 7, 8, 9} {
		var o bits.Out
		o.Put(math.MaxUint64, n)
		first := o.String()
		kept := strings.Clone(first)
		o.Put(1, 2)
		wrote(t, &o, signs(math.MaxUint64, n)+"01")
		o.Text("A", "")
		wrote(t, &o, signs(math.MaxUint64, n)+"01"+signsOf("A"))
		if first != kept {
			t.Errorf("%d bits: %q has become %q", n, kept, first)
		}
	}
}

// P6.1: each call of a nil one, whatever n is.
func TestNilOut(t *testing.T) {
	var o *bits.Out
	for n := -3; n < 70; n++ {
		if e := o.Put(9, n); e != api.ErrNil {
			t.Errorf("Put of %d bits: %v", n, e)
		}
	}
	for _, n := range none() {
		if e := o.Put(0, n); e != api.ErrNil {
			t.Errorf("Put of %d bits: %v", n, e)
		}
	}
	o.Text()
	o.Text("")
	o.Text("abc", "d")
	if o.Len() != 0 || o.String() != "" {
		t.Errorf("%d %q", o.Len(), o.String())
	}
}

// R3: Outs are apart, a copy and what it was copied from too, wherever the copy was made.
func TestCopiesAreApart(t *testing.T) {
	for _, n := range []int{0, 3, 8, 1000, 1016, 1019, 1023, 1024, 1025, 2048, 3001} {
		var o bits.Out
		all := ""
		for k := range n {
			bit := signs(uint64(k*k/5), 1)
			o.Put(number(bit), 1)
			all += bit
		}
		saved, other := o, o
		for range 200 {
			o.Put(0xabc, 12)
			other.Text("\x12", "\x34")
			other.Put(1, 1)
		}
		wrote(t, &saved, all)
		wrote(t, &o, all+strings.Repeat(signs(0xabc, 12), 200))
		wrote(t, &other, all+strings.Repeat(signsOf("\x12\x34")+"1", 200))
		far := o
		o = saved
		o.Text(strings.Repeat("\xff", 300))
		wrote(t, &saved, all)
		wrote(t, &o, all+strings.Repeat("1", 2400))
		wrote(t, &far, all+strings.Repeat(signs(0xabc, 12), 200))
	}
}

// R2: the list of parts is not written into, nor what stands behind it.
func TestPartsAreLeftAlone(t *testing.T) {
	l := []string{"12", "", "345", "behind"}
	var o bits.Out
	o.Text(l[:3]...)
	o.Put(1, 1)
	o.Text(l[:3]...)
	wrote(t, &o, signsOf("12345")+"1"+signsOf("12345"))
	if !slices.Equal(l, []string{"12", "", "345", "behind"}) {
		t.Errorf("%q", l)
	}
}

// R1: many fields are written one behind the other, in no more steps than they have bits.
func TestManyFields(t *testing.T) {
	var o bits.Out
	for n := range 300000 {
		o.Put(uint64(n), 24)
	}
	all := o.String()
	if o.Len() != 7200000 || len(all) != 900000 {
		t.Fatal(o.Len(), len(all))
	}
	for n := range 300000 {
		if got := all[3*n : 3*n+3]; got != string([]byte{byte(n >> 16), byte(n >> 8), byte(n)}) {
			t.Fatalf("%d: %q", n, got)
		}
	}
}
