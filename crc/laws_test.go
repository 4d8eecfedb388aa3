package crc_test

import (
	"testing"

	"clarion/api"
	"clarion/crc"
)

// P5.3: the same bytes, parted at every place, in two and in three.
func TestPartedAtEveryPlace(t *testing.T) {
	s := noise(21)
	for _, text := range []string{"123456789", "\x00\x00\x00\x00\x00", "\xff\xff\xff\xff\xff\xff", s.text(30)} {
		want := slowSum(text)
		for i := range len(text) + 1 {
			if got := crc.Sum(text[:i], text[i:]); got != want {
				t.Errorf("%q at %d: %#x, not %#x", text, i, got, want)
			}
			for j := i; j <= len(text); j++ {
				if got := crc.Sum(text[:i], text[i:j], text[j:]); got != want {
					t.Errorf("%q at %d and %d: %#x, not %#x", text, i, j, got, want)
				}
			}
		}
	}
}

// P5.3: byte by byte, with empty parts between, and in pieces of any length.
func TestPartedInMany(t *testing.T) {
	s := noise(23)
	for _, text := range samples() {
		if len(text) > 5000 {
			continue
		}
		var bytes, pieces []string
		for i := range len(text) {
			bytes = append(bytes, "", text[i:i+1])
		}
		for rest := text; rest != ""; {
			n := s.next() % (len(rest) + 1)
			pieces, rest = append(pieces, rest[:n]), rest[n:]
		}
		if want := slowSum(text); crc.Sum(bytes...) != want || crc.Sum(pieces...) != want {
			t.Errorf("%q: %#x and %#x, not %#x", text, crc.Sum(bytes...), crc.Sum(pieces...), want)
		}
	}
}

// P5.3: More goes on where Sum, or More, has ended.
func TestMoreGoesOn(t *testing.T) {
	s := noise(25)
	for _, text := range []string{"123456789", "\x00\x00\x00\x00\x00", s.text(60)} {
		from := s.register()
		for i := range len(text) + 1 {
			if got := crc.More(crc.Sum(text[:i]), text[i:]); got != slowSum(text) {
				t.Errorf("%q at %d: %#x", text, i, got)
			}
			if got := crc.More(crc.More(from, text[:i]), text[i:]); got != slowMore(from, text) {
				t.Errorf("%q at %d from %#x: %#x", text, i, from, got)
			}
		}
	}
}

// P5.3: what was sealed is opened, and twice so; its Sum is 0.
func TestSealedIsOpened(t *testing.T) {
	for _, text := range samples() {
		once := crc.Seal(text)
		if got := opened(once); got != (answer{text, api.OK}) {
			t.Errorf("%q: %#v", text, got)
		}
		if got := opened(crc.Seal(once)); got != (answer{once, api.OK}) {
			t.Errorf("%q, sealed twice: %#v", text, got)
		}
		if got := crc.Sum(once); got != 0 {
			t.Errorf("%q: the Sum of all is %#x", text, got)
		}
	}
}

// P5.3: one byte is another one: each place, the check sum's among them, and each other byte.
func TestOneOtherByte(t *testing.T) {
	s := noise(27)
	for _, text := range []string{"", "\x00", "123456789", "\x00\x00\x00\x00\x00\x00", s.text(40)} {
		sealed := crc.Seal(text)
		for i := range len(sealed) {
			for by := 1; by < 256; by++ {
				if got := opened(xorAt(sealed, i, string([]byte{byte(by)}))); got != (answer{"", api.ErrSum}) {
					t.Fatalf("%q: place %d, by %d: %#v", text, i, by, got)
				}
			}
		}
	}
}

// P5.3: two bytes in a row are other ones: each place, and all that two bytes may be.
func TestTwoOtherBytes(t *testing.T) {
	sealed := crc.Seal("abcd")
	for i := range len(sealed) - 1 {
		for by := 1; by < 1<<16; by++ {
			if got := opened(xorAt(sealed, i, string([]byte{byte(by >> 8), byte(by)}))); got != (answer{"", api.ErrSum}) {
				t.Fatalf("place %d, by %#x: %#v", i, by, got)
			}
		}
	}
}

// P5.3: up to four in a row, at each place: at the beginning, at the end, and over the check sum's own bytes.
func TestUpToFourOtherBytes(t *testing.T) {
	s := noise(29)
	for _, text := range []string{"", "\x00", "clarion", "\xff\xff\xff\xff\xff\xff\xff\xff", s.text(60), s.text(4096)} {
		sealed := crc.Seal(text)
		for n := 1; n <= 4; n++ {
			for i := range len(sealed) - n + 1 {
				if i > 20 && i < len(sealed)-20 {
					continue
				}
				for _, by := range rows(&s, n) {
					if got := opened(xorAt(sealed, i, by)); got != (answer{"", api.ErrSum}) {
						t.Fatalf("%d bytes: place %d, by %q: %#v", len(sealed), i, by, got)
					}
				}
			}
		}
	}
}

// P5.3: four other bytes behind which the Sum of all is a small number, or one bit alone: each bit of it is asked.
func TestFourOtherBytesThatLeaveLittle(t *testing.T) {
	var sums []uint32
	for n := uint32(1); n < 256; n++ {
		sums = append(sums, n, n<<8, n<<16, n<<24)
	}
	sealed := crc.Seal("clarion")
	for _, sum := range sums {
		text := xorAt(sealed, len(sealed)-4, slowBack(sum))
		if got := slowSum(text); got != sum {
			t.Fatalf("%#x, not %#x", got, sum)
		}
		if got := opened(text); got != (answer{"", api.ErrSum}) {
			t.Errorf("%#x: %#v", sum, got)
		}
	}
}

// rows is what turns n bytes in a row, the first and the last of them at least: all bits, one bit at each end, the fold's own, and others.
func rows(s *noise, n int) []string {
	out := []string{"\xff\xff\xff\xff"[:n], "\x04\xc1\x1d\xb7"[:n], "\x04\xc1\x1d\xb7"[4-n:], "\x01" + "\x00\x00\x01"[4-n:], "\x80" + "\x00\x00\x01"[4-n:]}
	for range 12 {
		b := []byte(s.text(n))
		b[0], b[n-1] = b[0]|1, b[n-1]|0x80
		out = append(out, string(b))
	}
	return out
}

// P5.2: five in a row may be a text that somebody else has sealed, and this one is opened.
func TestFiveOtherBytes(t *testing.T) {
	s := noise(31)
	for _, text := range []string{"\x00", "clarion", s.text(300)} {
		sealed := crc.Seal(text)
		for i := range len(sealed) - 4 {
			other := xorAt(sealed, i, "\x01\x04\xc1\x1d\xb7")
			if got := opened(other); got != (answer{other[:len(text)], api.OK}) {
				t.Fatalf("%q at %d: %#v", text, i, got)
			}
			if got := opened(xorAt(sealed, i, "\x01\x04\xc1\x1d\xb6")); got != (answer{"", api.ErrSum}) {
				t.Fatalf("%q at %d: %#v", text, i, got)
			}
		}
	}
}

// P5.2: the last byte is missing: the Sum of what is left is 0 just if that byte was 0, and then the words open it.
func TestLastByteMissing(t *testing.T) {
	if got := opened(crc.Seal("")[:3]); got != (answer{"", api.ErrShort}) {
		t.Errorf("of none: %#v", got)
	}
	s := noise(33)
	null, other := 0, 0
	for n := range 4000 {
		text := s.text(1 + n%50)
		sealed := crc.Seal(text)
		cut := sealed[:len(sealed)-1]
		want := answer{"", api.ErrSum}
		if sealed[len(cut)] == 0 {
			want = answer{cut[:len(cut)-4], api.OK}
			null++
		} else {
			other++
		}
		if got := opened(cut); got != want {
			t.Fatalf("%q: %#v, not %#v", sealed, got, want)
		}
	}
	if null < 5 || other < 3000 {
		t.Error("too few of a kind:", null, other)
	}
}
