package descr_test

import (
	"slices"
	"strconv"
	"testing"

	"clarion/api"
	"clarion/descr"
)

// aSlice is a Slice that may be.
func aSlice() descr.Slice {
	return descr.Slice{Slicing: true, Rows: 768, Burst: 200, Rate: 9, ID: 6, More: "more"}
}

// P18.2: Slices by hand: the four ways that Slicing and Fec may be, each with all Rows that may be, and the ends of the other numbers.
func TestSlice(t *testing.T) {
	for _, c := range []struct {
		x    descr.Slice
		want string
	}{
		{descr.Slice{Rows: 256}, "\x18\x00\x00"},
		{descr.Slice{Rows: 512}, "\x19\x00\x00"},
		{descr.Slice{Rows: 768}, "\x1a\x00\x00"},
		{descr.Slice{Rows: 1024}, "\x1b\x00\x00"},
		{descr.Slice{Fec: true, Rows: 256}, "\x38\x00\x00"},
		{descr.Slice{Fec: true, Rows: 1024}, "\x3b\x00\x00"},
		{descr.Slice{Slicing: true, Rows: 256}, "\x98\x00\x00"},
		{descr.Slice{Slicing: true, Rows: 768}, "\x9a\x00\x00"},
		{descr.Slice{Slicing: true, Fec: true, Rows: 256}, "\xb8\x00\x00"},
		{descr.Slice{Slicing: true, Fec: true, Rows: 1024, Burst: 255, Rate: 15, ID: 15}, "\xbb\xff\xff"},
		{descr.Slice{Rows: 256, Burst: 1}, "\x18\x01\x00"},
		{descr.Slice{Rows: 256, Rate: 1}, "\x18\x00\x10"},
		{descr.Slice{Rows: 256, ID: 1}, "\x18\x00\x01"},
		{descr.Slice{Rows: 256, Rate: 15}, "\x18\x00\xf0"},
		{descr.Slice{Rows: 256, ID: 15}, "\x18\x00\x0f"},
		{descr.Slice{Rows: 256, More: "\x00"}, "\x18\x00\x00\x00"},
		{aSlice(), "\x9a\xc8\x96more"},
	} {
		makesSlice(t, c.x, api.OK)
		if got, e := c.x.Make(); got != d(119, c.want) || e != api.OK {
			t.Errorf("%v: %v, %v, not %q", c.x, got, e, c.want)
		}
		if got, e := descr.ReadSlice(d(119, c.want)); got != c.x || e != api.OK {
			t.Errorf("%q: %v, %v, not %v", c.want, got, e, c.x)
		}
		told(t, "by hand", readsSlice(t, d(119, c.want)), api.OK)
	}
}

// P18.2: Rows of 0, 255, 256, 512, 768, 1024 and 1280, and all others about them.
func TestSliceOfRows(t *testing.T) {
	may := []int{256, 512, 768, 1024}
	var rows []int
	for n := -1300; n < 2600; n++ {
		rows = append(rows, n)
	}
	for _, n := range append(append(rows, outside(1024)...), 4096, 65536, 65536+256, 1<<32+256, 1<<40+512, -1<<63+256, 1<<62) {
		x := aSlice()
		x.Rows = n
		e := api.ErrRange
		if slices.Contains(may, n) {
			e = api.OK
		}
		makesSlice(t, x, e)
	}
}

// P18.2: Burst from 0 to 255, Rate and ID from 0 to 15, and no others.
func TestSliceOfNumbers(t *testing.T) {
	for _, c := range []struct {
		name string
		last int
		of   func(*descr.Slice) *int
	}{
		{"Burst", 255, func(x *descr.Slice) *int { return &x.Burst }},
		{"Rate", 15, func(x *descr.Slice) *int { return &x.Rate }},
		{"ID", 15, func(x *descr.Slice) *int { return &x.ID }},
	} {
		x := aSlice()
		for n := range c.last + 1 {
			*c.of(&x) = n
			makesSlice(t, x, api.OK)
			made, _ := x.Make()
			told(t, c.name, readsSlice(t, made), api.OK)
		}
		for _, n := range append(outside(c.last), c.last+1) {
			*c.of(&x) = n
			makesSlice(t, x, api.ErrRange)
			if made, e := x.Make(); made != (descr.Descriptor{}) || e != api.ErrRange {
				t.Errorf("%s %d: %v, %v", c.name, n, made, e)
			}
		}
	}
}

// P18.2: More of 0 to 252 bytes, and of more.
func TestSliceOfMore(t *testing.T) {
	s := noise(2)
	x := aSlice()
	for long := range 253 {
		x.More = s.text(long)
		makesSlice(t, x, api.OK)
		made, _ := x.Make()
		told(t, "More", readsSlice(t, made), api.OK)
	}
	for _, long := range []int{253, 254, 255, 256, 257, 508, 509, 512, 4096, 65536 + 10, 1 << 20} {
		x.More = dots(long)
		makesSlice(t, x, api.ErrLong)
		told(t, "a body of a greater one", readsSlice(t, d(119, "\x9a\xc8\x96"+x.More)), api.ErrForm)
	}
}

// P18.2: where more than one error could be, that of a number is told.
func TestSliceTellsTheFirstError(t *testing.T) {
	long := dots(253)
	for _, x := range []descr.Slice{{More: long}, {Rows: 255, More: long}, {Rows: 256, Burst: 256, More: long}, {Rows: 256, Rate: 16, More: long}, {Rows: 256, ID: -1, More: long}, {Rows: 1280, Burst: -1, Rate: -1, ID: 16, More: long}} {
		makesSlice(t, x, api.ErrRange)
		x.More = ""
		makesSlice(t, x, api.ErrRange)
	}
	// Numbers that, added up, make a byte that may be.
	makesSlice(t, descr.Slice{Rows: 512, Rate: 1, ID: -1}, api.ErrRange)
	makesSlice(t, descr.Slice{Rows: 512, Rate: 0, ID: 16}, api.ErrRange)
	makesSlice(t, descr.Slice{Rows: 512, Rate: 0, ID: 255}, api.ErrRange)
	makesSlice(t, descr.Slice{Rows: 512, Rate: -1, ID: 31}, api.ErrRange)
}

// P18.2: descriptors of another Tag, be their bodies of a Slice or not; bodies of 0 to 3 bytes.
func TestReadSliceOfOthers(t *testing.T) {
	for _, tag := range append(outside(255), 0, 1, 15, 19, 118, 120, 119+128, 255, 119+256, 119-256) {
		for _, body := range []string{"", "\x18", "\x18\x00", "\x18\x00\x00", "\xff\x00\x00", "\x18\x00\x00" + dots(252), "\x18\x00\x00" + dots(253)} {
			told(t, "Tag "+strconv.Itoa(tag), readsSlice(t, d(tag, body)), api.ErrKind)
		}
	}
	for n := range 256 {
		for _, body := range []string{"", one(n), one(n) + "\x00", one(n) + "\xff", "\x18" + one(n)} {
			told(t, "short", readsSlice(t, d(119, body)), api.ErrShort)
		}
	}
	told(t, "3 bytes", readsSlice(t, d(119, "\x18\x00\x00")), api.OK)
}

// P18.2: all first bytes: what has each bit as it must be is read, others are not, whatever is behind.
func TestReadSliceOfFirstBytes(t *testing.T) {
	for n := range 256 {
		// Of the bits from the highest on the second must be 0, the fourth and fifth 1, the sixth 0.
		e := api.ErrForm
		if n/64%2 == 0 && n/16%2 == 1 && n/8%2 == 1 && n/4%2 == 0 {
			e = api.OK
		}
		for _, behind := range []string{"\x00\x00", "\xff\xff", "\x12\x34more", "\x00\x00" + dots(252)} {
			told(t, "first byte "+strconv.Itoa(n), readsSlice(t, d(119, one(n)+behind)), e)
		}
		told(t, "too long", readsSlice(t, d(119, one(n)+"\x00\x00"+dots(253))), api.ErrForm)
	}
	for turned, e := range map[int]api.Errno{128: api.OK, 64: api.ErrForm, 32: api.OK, 16: api.ErrForm, 8: api.ErrForm, 4: api.ErrForm, 2: api.OK, 1: api.OK} {
		told(t, "a bit", readsSlice(t, d(119, one(0x9a^turned)+"\xc8\x96more")), e)
	}
}

// P18.2: bodies of more bytes than a Slice's may be.
func TestReadSliceOfLongBodies(t *testing.T) {
	for long := 250; long < 600; long++ {
		e := api.ErrForm
		if long <= 255 {
			e = api.OK
		}
		told(t, strconv.Itoa(long), readsSlice(t, d(119, "\x18\x00\x00"+dots(long-3))), e)
	}
	told(t, "very long", readsSlice(t, d(119, "\x18\x00\x00"+dots(1<<20))), api.ErrForm)
}

// aPlace is a Place that may be.
func aPlace() descr.Place {
	return descr.Place{Network: 1, Original: 258, Stream: 65535, Service: 4, Tag: 5}
}

// P18.3: Places by hand.
func TestPlace(t *testing.T) {
	for _, c := range []struct {
		x    descr.Place
		want string
	}{
		{aPlace(), "\x00\x01\x01\x02\xff\xff\x00\x04\x05"},
		{descr.Place{}, "\x00\x00\x00\x00\x00\x00\x00\x00\x00"},
		{descr.Place{Network: 65535, Original: 65535, Stream: 65535, Service: 65535, Tag: 255}, "\xff\xff\xff\xff\xff\xff\xff\xff\xff"},
		{descr.Place{Network: 256}, "\x01\x00\x00\x00\x00\x00\x00\x00\x00"},
		{descr.Place{Original: 255}, "\x00\x00\x00\xff\x00\x00\x00\x00\x00"},
		{descr.Place{Stream: 32768}, "\x00\x00\x00\x00\x80\x00\x00\x00\x00"},
		{descr.Place{Service: 4660}, "\x00\x00\x00\x00\x00\x00\x12\x34\x00"},
		{descr.Place{Tag: 255}, "\x00\x00\x00\x00\x00\x00\x00\x00\xff"},
	} {
		makesPlace(t, c.x, api.OK)
		if got, e := c.x.Make(); got != d(19, c.want) || e != api.OK {
			t.Errorf("%v: %v, %v, not %q", c.x, got, e, c.want)
		}
		if got, e := descr.ReadPlace(d(19, c.want)); got != c.x || e != api.OK {
			t.Errorf("%q: %v, %v, not %v", c.want, got, e, c.x)
		}
		told(t, "by hand", readsPlace(t, d(19, c.want)), api.OK)
	}
}

// P18.3: numbers of -1, 0, 65535 and 65536, a Tag of -1, 0, 255 and 256, and others.
func TestPlaceOfNumbers(t *testing.T) {
	for _, c := range []struct {
		last int
		of   func(*descr.Place) *int
	}{
		{65535, func(x *descr.Place) *int { return &x.Network }},
		{65535, func(x *descr.Place) *int { return &x.Original }},
		{65535, func(x *descr.Place) *int { return &x.Stream }},
		{65535, func(x *descr.Place) *int { return &x.Service }},
		{255, func(x *descr.Place) *int { return &x.Tag }},
	} {
		for _, x := range []descr.Place{{}, aPlace(), {Network: 65535, Original: 65535, Stream: 65535, Service: 65535, Tag: 255}} {
			for _, n := range []int{0, 1, 127, 128, 254, 255, c.last / 2, c.last - 1, c.last} {
				*c.of(&x) = n
				makesPlace(t, x, api.OK)
			}
			for _, n := range outside(c.last) {
				*c.of(&x) = n
				makesPlace(t, x, api.ErrRange)
			}
		}
	}
	makesPlace(t, descr.Place{Network: -1, Original: -1, Stream: 65536, Service: 65536, Tag: 256}, api.ErrRange)
}

// P18.3: bodies of all lengths about 9 bytes; descriptors of another Tag.
func TestReadPlaceOfOthers(t *testing.T) {
	for long := range 600 {
		e := api.ErrLong
		if long < 9 {
			e = api.ErrShort
		}
		if long == 9 {
			e = api.OK
		}
		for _, s := range []string{dots(long), string(make([]byte, long))} {
			told(t, strconv.Itoa(long), readsPlace(t, d(19, s)), e)
			for _, tag := range append(outside(255), 0, 15, 18, 20, 119, 255, 19+256, 19-256) {
				told(t, "Tag "+strconv.Itoa(tag), readsPlace(t, d(tag, s)), api.ErrKind)
			}
		}
	}
}

// P18.3: targets by hand; Targets of none.
func TestTargets(t *testing.T) {
	for _, c := range []struct {
		l    []descr.Target
		want string
	}{
		{nil, ""},
		{[]descr.Target{}, ""},
		{[]descr.Target{{}}, "\x00\x00\x00\x00\x00"},
		{[]descr.Target{{Addr: [4]byte{224, 0, 1, 2}, Bits: 32}, {Addr: [4]byte{10}, Bits: 8}}, "\xe0\x00\x01\x02\x20\x0a\x00\x00\x00\x08"},
		{[]descr.Target{{Addr: [4]byte{1, 2, 3, 4}, Bits: 5}, {Addr: [4]byte{1, 2, 3, 4}, Bits: 5}, {Addr: [4]byte{255, 254, 253, 252}}}, "\x01\x02\x03\x04\x05\x01\x02\x03\x04\x05\xff\xfe\xfd\xfc\x00"},
	} {
		makesTargets(t, c.l, api.OK)
		if got, e := descr.Targets(c.l...); got != d(15, c.want) || e != api.OK {
			t.Errorf("%v: %v, %v, not %q", c.l, got, e, c.want)
		}
		if got, e := descr.ReadTargets(d(15, c.want)); !slices.Equal(got, c.l) || e != api.OK {
			t.Errorf("%q: %v, %v, not %v", c.want, got, e, c.l)
		}
		told(t, "by hand", readsTargets(t, d(15, c.want)), api.OK)
	}
}

// P18.3: Bits of -1, 0, 32 and 33, and all others; addresses of which some bits behind these are set.
func TestTargetsOfBits(t *testing.T) {
	for n := range 33 {
		for _, addr := range [][4]byte{{}, {255, 255, 255, 255}, {1, 2, 3, 4}} {
			x := descr.Target{Addr: addr, Bits: n}
			makesTargets(t, []descr.Target{x}, api.OK)
			made, _ := descr.Targets(x)
			told(t, "Bits", readsTargets(t, made), api.OK)
		}
	}
	for n := 33; n < 256; n++ {
		makesTargets(t, []descr.Target{{Bits: n}}, api.ErrRange)
		told(t, "Bits", readsTargets(t, d(15, "abcd"+one(n))), api.ErrForm)
		told(t, "the second Bits", readsTargets(t, d(15, "abcd\x20abcd"+one(n))), api.ErrForm)
		told(t, "the first Bits", readsTargets(t, d(15, "abcd"+one(n)+"abcd\x20")), api.ErrForm)
		told(t, "a byte more", readsTargets(t, d(15, "abcd"+one(n)+"a")), api.ErrShort)
	}
	for _, n := range outside(32) {
		for at := range 5 {
			l := make([]descr.Target, 5)
			l[at].Bits = n
			makesTargets(t, l, api.ErrRange)
		}
	}
}

// P18.3: Targets of each number up to 51, and of more; with Bits that may not be, too.
func TestTargetsOfMany(t *testing.T) {
	s := noise(4)
	for many := range 300 {
		l := s.targets(many)
		e, read := api.OK, api.OK
		if many > 51 {
			e, read = api.ErrLong, api.ErrForm
		}
		makesTargets(t, l, e)
		body := ""
		for _, x := range l {
			body += string(x.Addr[:]) + one(x.Bits)
		}
		told(t, strconv.Itoa(many), readsTargets(t, d(15, body)), read)
		for _, at := range []int{0, many / 2, many - 1} {
			if many > 0 {
				kept := l[at]
				l[at].Bits = 33
				makesTargets(t, l, api.ErrRange)
				told(t, "Bits of 33", readsTargets(t, d(15, put(body, at*5+4, 33))), api.ErrForm)
				l[at] = kept
			}
		}
	}
}

// P18.3: bodies that are not so many times five bytes, be they of bytes that may be or not; descriptors of another Tag.
func TestReadTargetsOfOthers(t *testing.T) {
	for long := range 600 {
		e := api.OK
		if long > 255 {
			e = api.ErrForm
		}
		if long%5 != 0 {
			e = api.ErrShort
		}
		told(t, strconv.Itoa(long), readsTargets(t, d(15, string(make([]byte, long)))), e)
		if long > 0 && e == api.OK {
			e = api.ErrForm // each byte is 46
		}
		told(t, strconv.Itoa(long), readsTargets(t, d(15, dots(long))), e)
		for _, tag := range append(outside(255), 0, 14, 16, 19, 119, 255, 15+256, 15-256) {
			told(t, "Tag "+strconv.Itoa(tag), readsTargets(t, d(tag, dots(long))), api.ErrKind)
		}
	}
}

// P18.2, P18.3: any bodies at all, by the words.
func TestReadOfAny(t *testing.T) {
	s := noise(9)
	seen := map[api.Errno]int{}
	tags := []int{119, 19, 15, 119, 19, 15, 77}
	for range 30000 {
		x := d(tags[s.below(len(tags))], s.text(s.below(16)))
		if s.below(2) == 0 && len(x.Body) > 4 {
			x.Body = put(put(x.Body, 0, 24+s.below(4)), 4, s.below(40))
		}
		seen[readsSlice(t, x)]++
		seen[readsPlace(t, x)]++
		seen[readsTargets(t, x)]++
	}
	for _, e := range []api.Errno{api.OK, api.ErrKind, api.ErrShort, api.ErrLong, api.ErrForm} {
		if seen[e] < 300 {
			t.Error("too few of a kind:", e, seen[e])
		}
	}
}
