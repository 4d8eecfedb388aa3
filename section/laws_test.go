package section_test

import (
	"slices"
	"strings"
	"testing"

	"clarion/api"
	"clarion/section"
)

// P8.4: Decode of Encode is the section, Encode of Decode the bytes, and Need tells how many they are.
func TestDecodeOfEncodeAndEncodeOfDecode(t *testing.T) {
	s := noise(21)
	l := samples()
	for range 2000 {
		l = append(l, s.any())
	}
	for _, one := range l {
		text, e := section.Encode(one)
		if e != api.OK || needed(text) != (bytesOf{n: len(text)}) || needed(text[:3]) != needed(text) {
			t.Fatalf("%s: %d bytes, %v, %+v", short(one), len(text), e, needed(text))
		}
		got := decoded(text)
		if got != (told{s: one}) {
			t.Fatalf("%s: %s, %v", short(one), short(got.s), got.e)
		}
		if back := encoded(got.s); back != (bytesOf{text: text}) {
			t.Fatalf("%s: other bytes, %v", short(one), back.e)
		}
	}
}

// P8.4: all bytes that are decoded are what Encode makes of it: there are no two ways to write a section.
func TestEncodeOfWhatIsDecoded(t *testing.T) {
	s := noise(23)
	good := 0
	for range 20000 {
		text := s.text(8 + s.below(12))
		text = again(put(text[:1]+"\xb0"+text[2:], 2, len(text)+1) + "last")
		if s.below(2) == 0 {
			text = again(put(text, 1, 0xf0))
		}
		got := decoded(text)
		if got.e != api.OK {
			continue
		}
		good++
		if back := encoded(got.s); back != (bytesOf{text: text}) {
			t.Fatalf("%q: %q, %v", text, back.text, back.e)
		}
	}
	if good < 1000 {
		t.Error("too few:", good)
	}
}

// P8.4: one byte is another one: each place, each other byte, and the error by the words.
func TestOneOtherByte(t *testing.T) {
	s := noise(25)
	l := []section.Section{{}, {Table: 66, Now: true, Body: "hi"}, {Private: true, Ext: 65535, Version: 31, Last: 255, Body: "\x00\x00\x00\x00\x00\x00"}, s.any(), s.any()}
	for _, one := range l {
		text := slowBytes(one)
		for at := range len(text) {
			for n := range 256 {
				if n == int(text[at]) {
					continue
				}
				c := put(text, at, n)
				want := slowDecode(c)
				if got := decoded(c); want.e == api.OK || got != want {
					t.Fatalf("%s, byte %d is %d: %+v, not %+v", short(one), at, n, got, want)
				}
			}
		}
	}
}

// P8.4: the same in long ones.
func TestOneOtherByteOfMany(t *testing.T) {
	for _, long := range []int{300, 4084} {
		s := noise(long)
		text := slowBytes(section.Section{Table: 62, Ext: 5, Now: true, Body: s.text(long)})
		for at := range len(text) {
			for _, by := range []int{1, 0x80, 0xff, 1 + s.below(255)} {
				got := decoded(put(text, at, int(text[at])^by))
				if got.e == api.OK || got.s != (section.Section{}) || at > 2 && got.e != api.ErrSum {
					t.Fatalf("%d bytes, byte %d: %v", len(text), at, got.e)
				}
			}
		}
	}
}

// P8.4: Join of Split is the text; and Split of Join the list.
func TestJoinOfSplit(t *testing.T) {
	s := noise(27)
	longs := []int{0, 1, 4083, 4084, 4085, 8168, 8169, most - 1, most}
	for range 60 {
		longs = append(longs, s.below(30000))
	}
	for _, long := range longs {
		text := s.text(long)
		table, ext, version := s.below(256), s.below(65536), s.below(32)
		l, e := section.Split(table, ext, version, text)
		if e != api.OK {
			t.Fatalf("%d bytes: %v", long, e)
		}
		joined, e := section.Join(l...)
		if joined != text || e != api.OK {
			t.Fatalf("%d bytes: %d, %v", long, len(joined), e)
		}
		if again, e := section.Split(table, ext, version, joined); e != api.OK || !slices.Equal(again, l) {
			t.Fatalf("%d bytes: %d sections, %v, not %d", long, len(again), e, len(l))
		}
	}
}

// P8.4: the whole way: what was split, each section as bytes, and back.
func TestTheWholeWay(t *testing.T) {
	s := noise(29)
	text := s.text(20000)
	l, _ := section.Split(72, 7, 9, text)
	var all strings.Builder
	for _, one := range l {
		b, e := section.Encode(one)
		if e != api.OK {
			t.Fatal(e)
		}
		all.WriteString(b)
	}
	var back []section.Section
	for rest := all.String(); rest != ""; {
		n, e := section.Need(rest)
		if e != api.OK || n > len(rest) {
			t.Fatal(n, e)
		}
		one, e := section.Decode(rest[:n])
		if e != api.OK {
			t.Fatal(e)
		}
		back, rest = append(back, one), rest[n:]
	}
	if joined, e := section.Join(back...); joined != text || e != api.OK {
		t.Error(len(joined), e)
	}
}

// R3: what was asked ahead changes nothing.
func TestAskedAgain(t *testing.T) {
	ask := func() string {
		one := section.Section{Table: 66, Private: true, Ext: 0x1234, Version: 5, Number: 2, Last: 3, Body: "hi"}
		text, e := section.Encode(one)
		n, f := section.Need(text)
		l, g := section.Split(1, 2, 3, dots(5000))
		joined, h := section.Join(l...)
		return strings.Join([]string{text, short(decoded(text).s), short(l[1]), joined, e.Error(), f.Error(), g.Error(), h.Error(), signs(n, 16)}, "|")
	}
	first := ask()
	section.Check(section.Section{Table: 256})
	section.Encode(section.Section{Body: dots(4085)})
	section.Need("\x42")
	section.Decode("\x42\xb0\x09")
	section.Decode(slowBytes(section.Section{Number: 1}))
	section.Split(1, 2, 32, "")
	section.Join(row(3)[:2]...)
	if got := ask(); got != first {
		t.Errorf("%.80q, not %.80q", got, first)
	}
}
