package descr_test

import (
	"slices"
	"strconv"
	"strings"
	"testing"

	"clarion/api"
	"clarion/descr"
)

// list is descriptors.
func list(l ...descr.Descriptor) []descr.Descriptor { return l }

// anInt is an Int with an entry, and anIntsBody its bytes: 16 more are behind those of its Info.
func anInt() descr.Int {
	return descr.Int{Action: 1, Platform: 0x010203, Order: 7, Info: list(d(9, "i")), Entries: []descr.Entry{
		{Targets: list(d(15, ""), d(16, "ab")), Ops: list(d(19, "xyz"))},
	}}
}

const (
	anIntsExt  = 256
	anIntsBody = "\x01\x02\x03\x07\xf0\x03\x09\x01i\xf0\x06\x0f\x00\x10\x02ab\xf0\x05\x13\x03xyz"
)

// P18.4: Ints by hand: without entries, with several, with loops that have nothing.
func TestInt(t *testing.T) {
	several := anInt()
	several.Entries = append(several.Entries, descr.Entry{}, descr.Entry{Ops: list(d(0, ""))}, descr.Entry{Targets: list(d(255, "z"))})
	for _, c := range []struct {
		x    descr.Int
		ext  int
		want string
	}{
		{anInt(), anIntsExt, anIntsBody},
		{descr.Int{}, 0, "\x00\x00\x00\x00\xf0\x00"},
		{descr.Int{Action: 255, Platform: 16777215, Order: 255}, 65535, "\xff\xff\xff\xff\xf0\x00"},
		{descr.Int{Action: 1}, 256, "\x00\x00\x00\x00\xf0\x00"},
		{descr.Int{Platform: 1}, 1, "\x00\x00\x01\x00\xf0\x00"},
		{descr.Int{Platform: 256}, 1, "\x00\x01\x00\x00\xf0\x00"},
		{descr.Int{Platform: 65536}, 1, "\x01\x00\x00\x00\xf0\x00"},
		{descr.Int{Platform: 0x123456}, 0x12 ^ 0x34 ^ 0x56, "\x12\x34\x56\x00\xf0\x00"},
		{descr.Int{Order: 1}, 0, "\x00\x00\x00\x01\xf0\x00"},
		{descr.Int{Info: list(d(1, ""), d(2, "xx"))}, 0, "\x00\x00\x00\x00\xf0\x06\x01\x00\x02\x02xx"},
		{descr.Int{Entries: []descr.Entry{{}}}, 0, "\x00\x00\x00\x00\xf0\x00\xf0\x00\xf0\x00"},
		{descr.Int{Entries: make([]descr.Entry, 3)}, 0, "\x00\x00\x00\x00\xf0\x00" + strings.Repeat("\xf0\x00", 6)},
		{several, anIntsExt, anIntsBody + "\xf0\x00\xf0\x00\xf0\x00\xf0\x02\x00\x00\xf0\x03\xff\x01z\xf0\x00"},
	} {
		makesInt(t, c.x, api.OK)
		if s, e := c.x.Body(); s != c.want || e != api.OK {
			t.Errorf("%v: %q, %v, not %q", c.x, s, e, c.want)
		}
		if n := c.x.Ext(); n != c.ext {
			t.Errorf("%v: %d, not %d", c.x, n, c.ext)
		}
		if x, e := descr.ReadInt(c.ext, c.want); !sameInt(x, c.x) || e != api.OK {
			t.Errorf("%q: %v, %v, not %v", c.want, x, e, c.x)
		}
		told(t, "by hand", readsInt(t, c.ext, c.want), api.OK)
	}
}

// P18.4: Action and Order of -1, 0, 255 and 256, Platform of -1, 0, 16777215 and 16777216, and others; without them there is no Ext, and no Body.
func TestIntOfNumbers(t *testing.T) {
	for _, c := range []struct {
		last int
		of   func(*descr.Int) *int
	}{
		{255, func(x *descr.Int) *int { return &x.Action }},
		{16777215, func(x *descr.Int) *int { return &x.Platform }},
		{255, func(x *descr.Int) *int { return &x.Order }},
	} {
		for _, x := range []descr.Int{{}, anInt(), {Action: 255, Platform: 16777215, Order: 255}} {
			for _, n := range []int{0, 1, 127, 128, 254, 255, c.last / 2, c.last - 1, c.last} {
				*c.of(&x) = n
				makesInt(t, x, api.OK)
			}
			for _, n := range outside(c.last) {
				*c.of(&x) = n
				makesInt(t, x, api.ErrRange)
				if x.Ext() != 0 {
					t.Errorf("%v: %d, not 0", x, x.Ext())
				}
			}
		}
	}
}

// P18.4: Ext of each byte, at each place of a Platform, and of each Action.
func TestExt(t *testing.T) {
	for n := range 256 {
		for _, m := range []int{0, 1, 85, 255, n} {
			for _, x := range []descr.Int{{Action: n, Platform: m}, {Action: m, Platform: n}, {Action: m, Platform: n * 256}, {Action: m, Platform: n*65536 + m*256 + 9}, {Platform: m*65536 + n*256 + m}} {
				makesInt(t, x, api.OK)
			}
		}
	}
	// A Platform of three bytes alike has each of them once.
	if n := (descr.Int{Platform: 0x5a5a5a}).Ext(); n != 0x5a {
		t.Error(n)
	}
	if n := (descr.Int{Platform: 0x5a5a00, Action: 2}).Ext(); n != 512 {
		t.Error(n)
	}
}

// P18.4: Ext asks for the numbers alone: loops that may not be turn nothing.
func TestExtOfWrongLoops(t *testing.T) {
	x := anInt()
	x.Info, x.Entries[0].Ops = list(d(-1, "")), filled(5000)
	makesInt(t, x, api.ErrRange)
	if n := x.Ext(); n != anIntsExt {
		t.Error(n)
	}
}

// P18.4: which loop's error is told first, at each two places, and that of a number ahead of all.
func TestBodyTellsTheFirstError(t *testing.T) {
	wrong := []struct {
		l []descr.Descriptor
		e api.Errno
	}{
		{list(d(256, "")), api.ErrRange},
		{list(d(0, dots(256))), api.ErrLong},
		{filled(4096), api.ErrLong},
		{append(filled(4096), d(-1, "")), api.ErrRange},
		{list(d(1, "x"), d(2, dots(256)), d(-1, "")), api.ErrLong},
	}
	at := func(x *descr.Int, k int) *[]descr.Descriptor {
		if k == 0 {
			return &x.Info
		}
		n := &x.Entries[(k-1)/2]
		if k%2 == 1 {
			return &n.Targets
		}
		return &n.Ops
	}
	for a := range 7 {
		for b := range 7 {
			for _, first := range wrong {
				for _, second := range wrong {
					x := anInt()
					x.Entries = append(x.Entries, descr.Entry{Targets: list(d(3, ""))}, descr.Entry{})
					*at(&x, max(a, b)) = second.l
					*at(&x, min(a, b)) = first.l
					makesInt(t, x, first.e)
					x.Order = 256
					makesInt(t, x, api.ErrRange)
				}
			}
		}
	}
}

// P18.4: loops of as many bytes as there may be, at each place, and of one more.
func TestIntOfLongLoops(t *testing.T) {
	for _, long := range []int{250, 255, 256, 257, 511, 512, 4093, 4094, 4095, 4096, 4097} {
		e := api.OK
		if long > 4095 {
			e = api.ErrLong
		}
		l := filled(long)
		all := descr.Int{Action: 3, Info: l, Entries: []descr.Entry{{Targets: l, Ops: l}, {Ops: l}}}
		for _, x := range []descr.Int{{Info: l}, {Entries: []descr.Entry{{Targets: l}}}, {Entries: []descr.Entry{{Ops: l}}}, {Entries: []descr.Entry{{}, {Targets: l}}}, all} {
			makesInt(t, x, e)
			if body, f := x.Body(); f == api.OK {
				told(t, "long", readsInt(t, x.Ext(), body), api.OK)
				told(t, "cut", readsInt(t, x.Ext(), body[:len(body)-1]), api.ErrShort)
			}
		}
	}
}

// P18.4: very many entries, so that the bytes are more than any section has.
func TestIntOfManyEntries(t *testing.T) {
	x := descr.Int{Platform: 9, Entries: make([]descr.Entry, 20000)}
	for k := range x.Entries {
		x.Entries[k].Ops = list(d(k%256, one(k/256)))
	}
	body, e := x.Body()
	if len(body) != 6+7*20000 || e != api.OK {
		t.Errorf("%d bytes, %v", len(body), e)
	}
	if y, e := descr.ReadInt(9, body); !sameInt(x, y) || e != api.OK {
		t.Errorf("%d entries, %v", len(y.Entries), e)
	}
	if y, e := descr.ReadInt(9, body[:len(body)-1]); !sameInt(y, descr.Int{}) || e != api.ErrShort {
		t.Errorf("%d entries, %v", len(y.Entries), e)
	}
}

// P18.4: bodies that lack bytes at each place, whatever the ext that may be, and with other bits ahead of the lengths; an ext that may not be is told first.
func TestReadIntOfWhatEndsInTheMiddle(t *testing.T) {
	body := anIntsBody + "\xf0\x00\xf0\x02\x01\x00"
	for n := range len(body) + 1 {
		// Whole are what has no entries, one, and two.
		e := api.ErrShort
		if n == 9 || n == 24 || n == 30 {
			e = api.OK
		}
		told(t, strconv.Itoa(n), readsInt(t, anIntsExt, body[:n]), e)
		other := body[:n]
		for _, at := range []int{4, 9, 17, 24, 26} {
			if at < n {
				other = put(other, at, int(other[at])%16+at%2*16)
			}
		}
		if e == api.OK {
			e = api.ErrForm
		}
		for _, ext := range []int{1, 255, 257, 65535} {
			told(t, "another ext", readsInt(t, ext, body[:n]), e)
			told(t, "other bits", readsInt(t, ext, other), e)
		}
		for _, ext := range outside(65535) {
			told(t, "ext", readsInt(t, ext, body[:n]), api.ErrRange)
			told(t, "ext", readsInt(t, ext, other), api.ErrRange)
		}
	}
}

// P18.4: loops that end in the middle of a descriptor (Parse's error), at each place; whatever the bits ahead of the lengths, and the ext.
func TestReadIntOfLoopsThatEndInTheMiddle(t *testing.T) {
	for _, loop := range []string{"x", "\x00", "x\x01", "x\x02a", "x\x00y", "x\x01ay\x01", "x\xff" + dots(254)} {
		for k := range 5 {
			for _, marks := range []int{15, 0, 14, 7} {
				texts := slices.Repeat([]string{"\xf0\x02\x05\x00"}, 5)
				texts[k] = two(marks*4096+len(loop)) + loop
				for _, ext := range []int{0, 1, 65535} {
					told(t, "loop", readsInt(t, ext, "\x00\x00\x00\x00"+strings.Join(texts, "")), api.ErrShort)
				}
				told(t, "ext", readsInt(t, 65536, "\x00\x00\x00\x00"+strings.Join(texts, "")), api.ErrRange)
			}
		}
	}
	told(t, "4095 bytes", readsInt(t, 0, "\x00\x00\x00\x00\xff\xff"+string(make([]byte, 4095))), api.ErrShort)
	told(t, "4094 bytes", readsInt(t, 0, "\x00\x00\x00\x00\xff\xfe"+string(make([]byte, 4094))), api.OK)
}

// P18.4: lengths of which the four bits ahead are others, all that they could be, at each place.
func TestReadIntOfOtherMarks(t *testing.T) {
	for marks := range 16 {
		e := api.ErrForm
		if marks == 15 {
			e = api.OK
		}
		for _, at := range []int{4, 9, 17} {
			told(t, "marks", readsInt(t, anIntsExt, put(anIntsBody, at, marks*16)), e)
		}
		// A length of more than a byte, with other bits ahead of it.
		s, _ := slowLoop(filled(500))
		told(t, "long", readsInt(t, 0, "\x00\x00\x00\x00"+two(marks*4096+500)+s), e)
		told(t, "long", readsInt(t, 0, "\x00\x00\x00\x00\xf0\x00\xf0\x00"+two(marks*4096+500)+s), e)
		told(t, "nothing", readsInt(t, 0, "\x00\x00\x00\x00"+two(marks*4096)), e)
	}
}

// P18.4: an ext of -1, 0, 65535 and 65536; each one that is, or is not, the Ext of what the body tells.
func TestReadIntOfExts(t *testing.T) {
	for ext := range 65536 {
		x, e := descr.ReadInt(ext, anIntsBody)
		// All that have the right low byte tell an Action.
		if ext%256 == anIntsExt%256 {
			want := anInt()
			want.Action = ext / 256
			if !sameInt(x, want) || e != api.OK {
				t.Errorf("%d: %v, %v", ext, x, e)
			}
		} else if !sameInt(x, descr.Int{}) || e != api.ErrForm {
			t.Errorf("%d: %v, %v", ext, x, e)
		}
	}
	for _, body := range []string{anIntsBody, "", "\x00", "\x00\x00\x00\x00\xe0\x00", "\x00\x00\x00\x00\xf0\x00"} {
		for _, ext := range append(outside(65535), 65536+anIntsExt) {
			told(t, strconv.Itoa(ext), readsInt(t, ext, body), api.ErrRange)
		}
	}
	told(t, "0", readsInt(t, 0, "\x00\x00\x00\x00\xf0\x00"), api.OK)
	told(t, "65535", readsInt(t, 65535, "\x00\xff\x00\x00\xf0\x00"), api.OK)
	told(t, "65535", readsInt(t, 65535, "\x00\x00\x00\x00\xf0\x00"), api.ErrForm)
}

// P18.4: any bodies at all, by the words.
func TestReadIntOfAny(t *testing.T) {
	s := noise(8)
	seen := map[api.Errno]int{}
	for range 30000 {
		x := s.table(s.below(4))
		body, _ := slowBody(x)
		ext := slowExt(x)
		switch s.below(6) {
		case 0:
			body = body[:s.below(len(body)+1)]
		case 1:
			at := s.below(len(body))
			body = put(body, at, s.below(256))
		case 2:
			ext = s.below(66000)
		case 3:
			body += s.text(s.below(5))
		}
		seen[readsInt(t, ext, body)]++
	}
	for _, e := range []api.Errno{api.OK, api.ErrRange, api.ErrShort, api.ErrForm} {
		if seen[e] < 20 {
			t.Error("too few of a kind:", e, seen[e])
		}
	}
}
