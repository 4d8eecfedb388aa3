package fec_test

import (
	"strings"
	"testing"

	"clarion/api"
	"clarion/fec"
)

// body is that of a part, all bits of its times being 0.
func body() string { return "\x00\x00\x00\x00" + filled('a', 256) }

// part is what good(body()) is read as.
func part() fec.Part { return fec.Part{Padding: 5, Number: 1, Last: 2, Text: filled('a', 256)} }

// P11.2: each of section.Decode's errors, by name.
func TestDecodeOfNoSections(t *testing.T) {
	text := good(body()).bytes()
	tells(t, "whole", text, told{p: part()})
	for n := range len(text) {
		tells(t, "fewer", text[:n], told{e: api.ErrShort})
	}
	for _, more := range []string{"\x00", "x", "\xff", text, strings.Repeat("more", 3000)} {
		tells(t, "more", text+more, told{e: api.ErrLong})
	}
	for _, marks := range []int{0x71, 0xd1, 0xe1, 0xc1, 0x01} {
		tells(t, "marks", again(put(text, 1, marks)), told{e: api.ErrForm})
		tells(t, "three bytes", put(text, 1, marks)[:3], told{e: api.ErrForm})
	}
	for length, want := range map[int]api.Errno{0: api.ErrForm, 8: api.ErrForm, 9: api.ErrLong, 268: api.ErrLong, 270: api.ErrShort, 4093: api.ErrShort, 4094: api.ErrForm, 4095: api.ErrForm} {
		tells(t, "length", again(put(put(text, 1, 0xf0+length/256), 2, length%256)), told{e: want})
	}
	for at := 3; at < len(text); at++ {
		tells(t, "sum", put(text, at, int(text[at])^0x10), told{e: api.ErrSum})
	}
	for _, two := range []int{0x3f, 0x7f, 0xbf} {
		tells(t, "two bits", again(put(text, 5, two)), told{e: api.ErrForm})
	}
	tells(t, "number above last", again(put(text, 6, 3)), told{e: api.ErrForm})
	tells(t, "number above last", again(put(text, 6, 255)), told{e: api.ErrForm})
	tells(t, "no bytes", "", told{e: api.ErrShort})
	tells(t, "two bytes", "\x78\xf1", told{e: api.ErrShort})
}

// P11.2: section.Decode's error is named ahead of another table (R1).
func TestDecodeOfNoSectionsOfAnotherTable(t *testing.T) {
	text := put(good(body()).bytes(), 0, 0x3e)
	tells(t, "sum", text, told{e: api.ErrSum})
	tells(t, "short", again(text)[:20], told{e: api.ErrShort})
	tells(t, "long", again(text)+"x", told{e: api.ErrLong})
	tells(t, "form", again(put(text, 1, 0x71)), told{e: api.ErrForm})
	tells(t, "two bits", again(put(text, 5, 0x3f)), told{e: api.ErrForm})
	tells(t, "number above last", again(put(text, 6, 9)), told{e: api.ErrForm})
	tells(t, "whole", again(text), told{e: api.ErrKind})
}

// P11.2: each other table, whatever else is wrong behind it (R1).
func TestDecodeOfOtherTables(t *testing.T) {
	for n := range 256 {
		for _, r := range []raw{good(body()), good(""), good("\x00\x00\x00"), good("\x00\x00\x00\x00x"), {last: 255, body: body()}, {ext: 0xffff, now: true, body: body()}} {
			r.table = n
			if n != 120 {
				tells(t, "table", r.bytes(), told{e: api.ErrKind})
			} else if r.private && r.body == body() {
				tells(t, "table", r.bytes(), told{p: part()})
			}
		}
	}
}

// others is sections of which Version, Now, Private, or the low byte of Ext is not as it must be, each alone, and several.
func others(body string) []raw {
	var l []raw
	turn := func(by func(*raw)) {
		r := good(body)
		by(&r)
		l = append(l, r)
	}
	for n := range 31 {
		turn(func(r *raw) { r.version = n })
	}
	for n := range 255 {
		turn(func(r *raw) { r.ext = 0x0500 + n })
		turn(func(r *raw) { r.ext = n })
	}
	turn(func(r *raw) { r.now = false })
	turn(func(r *raw) { r.private = false })
	turn(func(r *raw) { r.now, r.private = false, false })
	turn(func(r *raw) { r.version, r.now, r.private = 0, false, false })
	turn(func(r *raw) { r.version, r.now, r.private, r.ext = 0, false, false, 0 })
	turn(func(r *raw) { r.version, r.ext = 0, 0xff00 })
	return l
}

// P11.2: each of them is ErrForm, also with a body that is short, a column of another length, a Padding or a Last that may not be: it is named first (R1).
func TestDecodeOfWhatMustBeOtherwise(t *testing.T) {
	for _, b := range []string{body(), "", "\x00\x00\x00", "\x00\x00\x00\x00", "\x00\x00\x00\x00x", body() + "x"} {
		for _, r := range others(b) {
			tells(t, "other", r.bytes(), told{e: api.ErrForm})
			r.ext |= 0xff00
			tells(t, "other, and padding", r.bytes(), told{e: api.ErrForm})
			r.number, r.last = 3, 255
			tells(t, "other, and last", r.bytes(), told{e: api.ErrForm})
		}
	}
}

// P11.2: bodies of 0 to 5 bytes: fewer than four are ErrShort, whatever numbers there are (R1); behind four there is none, or less than a column.
func TestDecodeOfShortBodies(t *testing.T) {
	for _, all := range []string{"\x00\x00\x00\x00\x00", "\xff\xff\xff\xff\xff", "abcde"} {
		for long := range 6 {
			first, then := api.ErrShort, api.ErrShort
			if long >= 4 {
				first, then = api.ErrForm, api.ErrRange
			}
			r := good(all[:long])
			tells(t, "short", r.bytes(), told{e: first})
			r.ext = 0xffff
			tells(t, "short, and padding", r.bytes(), told{e: then})
			r.ext, r.last = 0x05ff, 64
			tells(t, "short, and last", r.bytes(), told{e: then})
		}
	}
}

// P11.2: each Padding that a section may tell: from 192 on there are too many.
func TestDecodeOfPaddings(t *testing.T) {
	for n := range 256 {
		r := good(body())
		r.ext = n*256 + 255
		want := told{p: part()}
		if want.p.Padding = n; n >= 192 {
			want = told{e: api.ErrRange}
		}
		tells(t, "padding", r.bytes(), want)
		if n >= 192 {
			r.body += "x"
			tells(t, "padding, and another length", r.bytes(), want)
		}
	}
}

// P11.2: each Last that a section may tell, and Numbers up to it: from a Last of 64 on there are too many.
func TestDecodeOfLasts(t *testing.T) {
	for last := range 256 {
		for _, n := range []int{0, last / 2, last} {
			r := good(body())
			r.number, r.last = n, last
			want := told{p: part()}
			if want.p.Number, want.p.Last = n, last; last >= 64 {
				want = told{e: api.ErrRange}
			}
			tells(t, "last", r.bytes(), want)
			if last >= 64 {
				r.body = "\x00\x00\x00\x00"
				tells(t, "last, and another length", r.bytes(), want)
			}
		}
	}
}

// P11.2: columns of each length that may be, and of others.
func TestDecodeOfColumns(t *testing.T) {
	for _, long := range longs() {
		p := part()
		p.Text = filled('c', long)
		tells(t, "column", good("\x00\x00\x00\x00"+p.Text).bytes(), told{p: p})
		tells(t, "no times", good(p.Text).bytes(), told{e: api.ErrForm})
	}
	for _, long := range wrongLongs() {
		if long <= 4080 {
			tells(t, "another length", good("\x00\x00\x00\x00"+filled('c', long)).bytes(), told{e: api.ErrForm})
			tells(t, "another length", good("\xff\xff\xff\xff"+filled(0, long)).bytes(), told{e: api.ErrForm})
		}
	}
}

// P11.2: times of no bit, of each bit alone, and of all of them, which are read whatever they are.
func TestDecodeOfTimes(t *testing.T) {
	want := told{p: part()}
	tells(t, "none", good(body()).bytes(), want)
	want.p.Times = allSet()
	tells(t, "all", good("\xff\xff\xff\xff"+want.p.Text).bytes(), want)
	for n := range 32 {
		text := good(four(1<<n) + want.p.Text).bytes()
		tells(t, "one bit", text, slowDecode(text))
		if decoded(text).e != api.OK {
			t.Error(n, "is not read")
		}
	}
}

// any is a section of which each field may be another one.
func (s *noise) any() string {
	last := s.below(64)
	r := good(s.text(4) + s.text(256))
	r.ext, r.number, r.last = s.below(192)*256+255, s.below(last+1), last
	switch s.below(12) {
	case 0:
		r.body = r.body[:s.below(len(r.body))]
	case 1:
		r.body = r.body[:s.below(6)]
	case 2:
		r.table = s.below(256)
	case 3:
		r.version, r.private, r.now = 31-s.below(2), s.below(2) == 0, s.below(2) == 0
	case 4:
		r.ext = s.below(65536)
	case 5:
		r.ext, r.last = s.below(256)*256+255, last+s.below(192)
	}
	text := r.bytes()
	switch at := s.below(len(text)); s.below(8) {
	case 0:
		text = again(put(text, min(at, s.below(16)), s.below(256)))
	case 1:
		text = put(text, at, s.below(256))
	case 2:
		text += s.text(1 + s.below(3))
	case 3:
		text = text[:at]
	}
	return text
}

// P11.2: any sections, sealed and not, by the words.
func TestDecodeOfAny(t *testing.T) {
	s := noise(11)
	seen := map[api.Errno]int{}
	for range 10000 {
		text := s.any()
		want := slowDecode(text)
		tells(t, "any", text, want)
		seen[want.e]++
	}
	for _, e := range []api.Errno{api.OK, api.ErrShort, api.ErrLong, api.ErrForm, api.ErrSum, api.ErrKind, api.ErrRange} {
		if seen[e] < 100 {
			t.Error("too few of a kind:", e, seen[e])
		}
	}
}
