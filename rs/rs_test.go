package rs_test

import (
	"strings"
	"testing"

	"clarion/api"
	"clarion/gf"
	"clarion/poly"
	"clarion/rs"
)

// The calls as the chapter lists them: with another signature this file does not build.
var (
	_ func() string                    = rs.Generator
	_ func(string) (string, api.Errno) = rs.Encode
	_ func(string) (string, api.Errno) = rs.Word
	_ func(string) (string, api.Errno) = rs.Syndromes
	_ func(string) bool                = rs.Is
	_ func(string) (string, api.Errno) = rs.Short
)

// P3.1
func TestGenerator(t *testing.T) {
	g := rs.Generator()
	if len(g) != 65 || g[64] != 1 || g != slowGenerator() {
		t.Fatalf("%q", g)
	}
	// The lowest coefficient is the product of all these a, the last but one their sum.
	if g[0] != gf.Mul(slowZeros()...) || g[0] != gf.Exp(63*64/2) || g[63] != gf.Add(slowZeros()...) {
		t.Error(g[0], g[63])
	}
}

// P3.1: it is 0 at 2 to the n, n from 0 to 63, and nowhere else.
func TestZerosOfTheGenerator(t *testing.T) {
	g := rs.Generator()
	for n := range 255 {
		if v := poly.At(g, gf.Exp(n)); (v == 0) != (n < 64) {
			t.Errorf("at 2 to the %d: %d", n, v)
		}
	}
	if poly.At(g, 0) == 0 {
		t.Error("at 0")
	}
}

// P3.1: of the texts behind data just one makes it a word, so that this is all that can be asked.
func TestEncodeMakesAWord(t *testing.T) {
	for _, data := range samples() {
		got := told(rs.Encode(data))
		if len(got.text) != 64 || got.e != api.OK || !slowIs(data+got.text) {
			t.Errorf("Encode(%q): %q, %d", data, got.text, int(got.e))
		}
	}
}

// P3.1: of each data of which one byte alone is not 0: the parity is what is left of a power of x by the generator.
func TestEncodeOfOneByteAlone(t *testing.T) {
	for i := range 191 {
		data := nulls(i) + "\x01" + nulls(190-i)
		_, rest, _ := poly.Divide(nulls(254-i)+"\x01", slowGenerator())
		got := told(rs.Encode(data))
		if len(got.text) != 64 || got.e != api.OK {
			t.Fatal(i, len(got.text), int(got.e))
		}
		for n := range 64 {
			if want := (rest + nulls(64))[63-n]; got.text[n] != want {
				t.Fatalf("place %d: the parity %d: %d, not %d", i, n, got.text[n], want)
			}
		}
	}
}

// P3.1: the last byte alone: its parity is the generator without its highest coefficient, so many times.
func TestEncodeOfTheLastByteAlone(t *testing.T) {
	g := slowGenerator()
	for c := range 256 {
		got := told(rs.Encode(nulls(190) + string([]byte{byte(c)})))
		if len(got.text) != 64 || got.e != api.OK {
			t.Fatal(c, len(got.text), int(got.e))
		}
		for n := range 64 {
			if want := gf.Mul(byte(c), g[63-n]); got.text[n] != want {
				t.Fatalf("%d: the parity %d: %d, not %d", c, n, got.text[n], want)
			}
		}
	}
}

// P3.1
func TestWordIsDataAndItsParity(t *testing.T) {
	for _, data := range samples() {
		got := told(rs.Word(data))
		if len(got.text) != 255 || got.e != api.OK || got.text[:191] != data || got.text[191:] != told(rs.Encode(data)).text || !slowIs(got.text) {
			t.Errorf("Word(%q): %q, %d", data, got.text, int(got.e))
		}
	}
}

// P3.1: data of another length; beside the error nothing is answered (R1).
func TestDataOfOtherLengths(t *testing.T) {
	s := noise(5)
	for _, long := range []int{0, 1, 64, 127, 190, 192, 254, 255, 256, 382, 5000} {
		for _, data := range []string{nulls(long), s.text(long)} {
			if got := told(rs.Encode(data)); got != (answer{"", api.ErrArg}) {
				t.Errorf("Encode of %d bytes: %#v", long, got)
			}
			if got := told(rs.Word(data)); got != (answer{"", api.ErrArg}) {
				t.Errorf("Word of %d bytes: %#v", long, got)
			}
		}
	}
	for _, long := range []int{192, 193, 255, 256, 5000} {
		for _, data := range []string{nulls(long), s.text(long)} {
			if got := told(rs.Short(data)); got != (answer{"", api.ErrArg}) {
				t.Errorf("Short of %d bytes: %#v", long, got)
			}
		}
	}
}

// P3.1: each length that may be, the bytes 0 standing behind and not in front.
func TestShort(t *testing.T) {
	s := noise(7)
	for long := range 192 {
		data := s.text(long)
		got := told(rs.Short(data))
		if len(got.text) != 64 || got.e != api.OK || !slowIs(data+nulls(191-long)+got.text) {
			t.Errorf("of %d bytes: %q, %d", long, got.text, int(got.e))
		}
		if got != told(rs.Encode(data+nulls(191-long))) {
			t.Errorf("of %d bytes: not as Encode", long)
		}
	}
	if got := told(rs.Short("")); got != (answer{nulls(64), api.OK}) {
		t.Errorf("of none: %#v", got)
	}
	if told(rs.Short("abc")) != told(rs.Short("abc\x00\x00")) || told(rs.Short("abc")) == told(rs.Short("\x00abc")) {
		t.Error("bytes 0 behind, or in front")
	}
}

// P3.2: of words, and of texts that are none.
func TestSyndromes(t *testing.T) {
	s := noise(11)
	texts := []string{nulls(255), nulls(254) + "\x01", "\x01" + nulls(254), strings.Repeat("\xff", 255), s.text(255), s.text(255), strings.Repeat("\xe2\x82\xac", 85)}
	for _, w := range words() {
		texts = append(texts, w, s.turn(w, s.places(1)), s.turn(w, s.places(64)), s.turn(w, s.places(65)))
	}
	for _, text := range texts {
		if got, want := told(rs.Syndromes(text)), (answer{slowSyndromes(text), api.OK}); got != want {
			t.Errorf("Syndromes(%q): %#v, not %#v", text, got, want)
		}
	}
}

// P3.2: one byte alone at each place is that byte, times 2 to the power of the place times n.
func TestSyndromesOfOneByteAlone(t *testing.T) {
	for i := range 255 {
		got := told(rs.Syndromes(nulls(i) + "\x07" + nulls(254-i)))
		if len(got.text) != 64 || got.e != api.OK {
			t.Fatal(i, len(got.text), int(got.e))
		}
		for n := range 64 {
			if want := gf.Mul(7, gf.Exp(n*(254-i))); got.text[n] != want {
				t.Fatalf("place %d, at 2 to the %d: %d, not %d", i, n, got.text[n], want)
			}
		}
	}
}

// P3.2: texts of another length, words among them that a byte was taken off or put to.
func TestTextsOfOtherLengths(t *testing.T) {
	s := noise(13)
	w := words()[20]
	texts := []string{w[:254], w[1:], w + "\x00", "\x00" + w, w + w, nulls(1) + w[:253]}
	for _, long := range []int{0, 1, 64, 191, 254, 256, 510, 5000} {
		texts = append(texts, nulls(long), s.text(long))
	}
	for _, text := range texts {
		if got := told(rs.Syndromes(text)); got != (answer{"", api.ErrArg}) {
			t.Errorf("Syndromes of %d bytes: %#v", len(text), got)
		}
		if rs.Is(text) {
			t.Errorf("Is of %d bytes", len(text))
		}
	}
}

// P3.2
func TestIs(t *testing.T) {
	s := noise(17)
	texts := []string{nulls(255), nulls(190) + backward(slowGenerator()), backward(slowGenerator()) + nulls(190), backward(slowGenerator())[:64] + nulls(191), strings.Repeat("\xff", 255), s.text(255)}
	for _, w := range words() {
		texts = append(texts, w, s.turn(w, s.places(1)), s.turn(w, s.places(70)), backward(w), w[1:]+w[:1])
	}
	is, none := 0, 0
	for _, text := range texts {
		want := slowIs(text)
		if got := rs.Is(text); got != want {
			t.Errorf("Is(%q): %v", text, got)
		}
		if want {
			is++
		} else {
			none++
		}
	}
	if is < 25 || none < 25 {
		t.Error("too few of a kind:", is, none)
	}
}

// P3.2: a text of which each syndrome in turn is the only one that is not 0 is no word.
func TestIsAsksAllSyndromes(t *testing.T) {
	g, zeros := slowGenerator(), slowZeros()
	for n, a := range zeros {
		text := backward(mustDivide(t, g, string([]byte{a, 1})))
		text = nulls(255-len(text)) + text
		got := told(rs.Syndromes(text))
		for m := range 64 {
			if (got.text[m] != 0) != (m == n) {
				t.Fatalf("%d: %q", n, got.text)
			}
		}
		if rs.Is(text) {
			t.Error(n)
		}
	}
}

// The chapter's examples, as they stand there.
func TestExamples(t *testing.T) {
	if got := told(rs.Encode(nulls(191))); got != (answer{nulls(64), api.OK}) {
		t.Errorf("Encode of bytes 0: %#v", got)
	}
	for _, w := range words() {
		if got := told(rs.Syndromes(w)); got != (answer{nulls(64), api.OK}) {
			t.Errorf("Syndromes of a word: %#v", got)
		}
	}
}

// R3: what was asked ahead changes nothing.
func TestAskedAgain(t *testing.T) {
	data := samples()[20]
	ask := func() [4]answer {
		return [4]answer{told(rs.Encode(data)), told(rs.Word(data)), told(rs.Short(data[:80])), told(rs.Syndromes(data + data[:64]))}
	}
	first, g := ask(), rs.Generator()
	rs.Encode("")
	rs.Short(data + data)
	rs.Is(g)
	rs.Word(nulls(191))
	if ask() != first || rs.Generator() != g {
		t.Error("another answer")
	}
}

// backward is a text back to front.
func backward(text string) string {
	var out []byte
	for i := len(text) - 1; i >= 0; i-- {
		out = append(out, text[i])
	}
	return string(out)
}

// mustDivide is how often b is in a, of which nothing is left.
func mustDivide(t *testing.T, a, b string) string {
	quotient, rest, e := poly.Divide(a, b)
	if rest != "" || e != api.OK {
		t.Fatalf("%q, %d", rest, int(e))
	}
	return quotient
}
