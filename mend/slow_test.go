package mend_test

import (
	"fmt"
	"slices"
	"strings"

	"clarion/api"
	"clarion/gf"
	"clarion/mend"
	"clarion/rs"
)

// The chapter's own words, and rows of equations where words are not enough, so that the package is not held against its own steps.

// slowPower is that of a place.
func slowPower(place int) int { return 254 - place }

// slowRoom is how many bytes may be turned: each needs two bytes of parity, each lost place one.
func slowRoom(lost int) int {
	if lost < 0 || lost > 64 {
		return -1
	}
	room := 0
	for lost+2*(room+1) <= 64 {
		room++
	}
	return room
}

// slowLocator is the product of 1 + a x, each factor being the sum of p and of p a power higher, times a.
func slowLocator(at []int) string {
	p := []byte{1}
	for _, n := range at {
		a := slowExp(slowPower(n))
		higher := append(slices.Clone(p), 0)
		for i := range p {
			higher[i+1] ^= gf.Mul(a, p[i])
		}
		p = higher
	}
	return string(p)
}

// slowExp is 2, n times by itself.
func slowExp(n int) byte {
	all := byte(1)
	for range n {
		all = gf.Mul(all, 2)
	}
	return all
}

// slowSyndromes is a text's values at 2 to the n, n from 0 to 63.
func slowSyndromes(text string) []byte {
	out := make([]byte, 64)
	for n := range out {
		x := slowExp(n)
		for i := range len(text) {
			out[n] = gf.Mul(out[n], x) ^ text[i]
		}
	}
	return out
}

// slowIs is whether a text is a word.
func slowIs(text string) bool {
	return len(text) == 255 && slices.Max(slowSyndromes(text)) == 0
}

// slowNear is whether a word is one that a text is near.
func slowNear(text string, lost []int, word string) bool {
	turned := 0
	for i := range len(text) {
		if text[i] != word[i] && !slices.Contains(lost, i) {
			turned++
		}
	}
	return slowIs(word) && turned <= slowRoom(len(lost))
}

// solve is an answer of rows of equations (the last byte of each is what the others, each times its unknown, are together), and whether there is one.
func solve(rows [][]byte, unknowns int) ([]byte, bool) {
	f := gf.New()
	done, heads := 0, []int{}
	for c := 0; c < unknowns && done < len(rows); c++ {
		i := done
		for i < len(rows) && rows[i][c] == 0 {
			i++
		}
		if i == len(rows) {
			continue
		}
		rows[done], rows[i] = rows[i], rows[done]
		inv := f.Inv(rows[done][c])
		for k := range rows[done] {
			rows[done][k] = f.Mul(rows[done][k], inv)
		}
		for j := range rows {
			if by := rows[j][c]; j != done && by != 0 {
				for k := range rows[j] {
					rows[j][k] ^= f.Mul(by, rows[done][k])
				}
			}
		}
		heads = append(heads, c)
		done++
	}
	for _, r := range rows[done:] {
		if r[unknowns] != 0 {
			return nil, false
		}
	}
	out := make([]byte, unknowns)
	for i, c := range heads {
		out[c] = rows[i][unknowns]
	}
	return out, true
}

// slowLines is the rows that a locator of n turned places fulfils, its coefficient of x to the 0 being 1: of the syndromes, each added up with those ahead of it by the lost places' locator, those from lost on are what the n ahead of them tell.
func slowLines(text string, lost []int, n int) [][]byte {
	s, l := slowSyndromes(text), slowLocator(lost)
	told := make([]byte, 64)
	for i := range told {
		for k := 0; k <= i && k < len(l); k++ {
			told[i] ^= gf.Mul(l[k], s[i-k])
		}
	}
	var rows [][]byte
	for i := len(lost) + n; i < 64; i++ {
		row := make([]byte, n+1)
		for k := range n {
			row[k] = told[i-k-1]
		}
		row[n] = told[i]
		rows = append(rows, row)
	}
	return rows
}

// slowFill is the word that a text is, if nothing but bytes at these places is turned, and whether there is one.
func slowFill(text string, at []int) (string, bool) {
	s := slowSyndromes(text)
	rows := make([][]byte, 64)
	for n := range rows {
		for _, i := range at {
			rows[n] = append(rows[n], gf.Exp(n*slowPower(i)))
		}
		rows[n] = append(rows[n], s[n])
	}
	by, ok := solve(rows, len(at))
	if !ok {
		return "", false
	}
	out := []byte(text)
	for k, i := range at {
		out[i] ^= by[k]
	}
	return string(out), true
}

// slowWord is the word that a text is near, and whether there is one: the fewest turned places that the rows allow are tried, then more.
func slowWord(text string, lost []int) (string, bool) {
	for n := range slowRoom(len(lost)) + 1 {
		l, ok := solve(slowLines(text, lost, n), n)
		if !ok {
			continue
		}
		at := slices.Clone(lost)
		for i := range 255 {
			x, value := gf.Exp(-slowPower(i)), byte(1)
			power := x
			for k := range l {
				value ^= gf.Mul(l[k], power)
				power = gf.Mul(power, x)
			}
			if value == 0 && !slices.Contains(lost, i) {
				at = append(at, i)
			}
		}
		if word, ok := slowFill(text, at); ok && slowNear(text, lost, word) {
			return word, true
		}
	}
	return "", false
}

// differ is the places, rising, at which two texts have other bytes.
func differ(a, b string) []int {
	var out []int
	for i := range len(a) {
		if a[i] != b[i] {
			out = append(out, i)
		}
	}
	return out
}

// noise is bytes that follow no rule to be seen, the same ones at each run.
type noise uint32

func (s *noise) next() int {
	*s = *s*1664525 + 1013904223
	return int(*s >> 16)
}

func (s *noise) text(long int) string {
	b := make([]byte, long)
	for i := range b {
		b[i] = byte(s.next())
	}
	return string(b)
}

// places is n places from 0 to 254, each once, in any order.
func (s *noise) places(n int) []int {
	all := row(0, 255)
	for i := range n {
		j := i + s.next()%(len(all)-i)
		all[i], all[j] = all[j], all[i]
	}
	return all[:n]
}

// turn is a text with other bytes at these places.
func (s *noise) turn(text string, at []int) string {
	out := []byte(text)
	for _, i := range at {
		out[i] ^= byte(1 + s.next()%255)
	}
	return string(out)
}

// word is one whose data follows no rule.
func (s *noise) word() string {
	w, _ := rs.Word(s.text(191))
	return w
}

// row is n places from one on, rising.
func row(from, n int) []int {
	out := make([]int, n)
	for i := range out {
		out[i] = from + i
	}
	return out
}

// nulls is so many bytes 0.
func nulls(n int) string { return strings.Repeat("\x00", n) }

// xor is two texts of the same length, xor-ed byte by byte.
func xor(a, b string) string {
	out := []byte(a)
	for i := range out {
		out[i] ^= b[i]
	}
	return string(out)
}

// generator is the word of bytes 0 and, from this place on, the 65 bytes of the generator: none has fewer bytes that are not 0, but the word of bytes 0.
func generator(from int) string {
	g := []byte(rs.Generator())
	slices.Reverse(g)
	return nulls(from) + string(g) + nulls(190-from)
}

// words is words of many forms.
func words() []string {
	out := []string{nulls(255), generator(0), generator(190)}
	for _, data := range []string{nulls(190) + "\x01", "\xff" + nulls(190), strings.Repeat("\xff", 191), strings.Repeat("\xe2\x82\xac", 63) + "\xc3\xa9"} {
		w, _ := rs.Word(data)
		out = append(out, w)
	}
	s := noise(31)
	for range 5 {
		out = append(out, s.word())
	}
	return out
}

// answer is what Word tells.
type answer struct {
	word string
	at   []int
	e    api.Errno
}

func told(text string, lost []int) answer {
	word, at, e := mend.Word(text, lost)
	return answer{word, at, e}
}

// String is what a test that fails shows of it.
func (a answer) String() string {
	return fmt.Sprintf("%q, %v, %d", a.word, a.at, int(a.e))
}

// is tells whether this word and these places are answered.
func (a answer) is(word string, at []int) bool {
	return a.e == api.OK && a.word == word && slices.Equal(a.at, at)
}

// fails tells whether this error is answered, and nothing beside it.
func (a answer) fails(e api.Errno) bool {
	return a.e == e && a.word == "" && len(a.at) == 0
}
