package joiner_test

import (
	"slices"
	"strconv"
	"strings"
	"testing"

	"clarion/api"
	"clarion/joiner"
	"clarion/packet"
)

// The words of this chapter, and of those that it stands on, byte by byte: all that was taken since a section began is kept, and gone through anew each time, so that the package is held neither against the layers that it stands on, nor against its own ways.

// one is a byte; dots and ones are so many of a kind.
func one(n int) string  { return string([]byte{byte(n)}) }
func dots(n int) string { return strings.Repeat(".", n) }
func ones(n int) string { return strings.Repeat("\xff", n) }

// of is the bytes of a section of so many bytes, of that table; each is another one than that behind it, but for what must be.
func of(table, long int) string {
	b := []byte(one(table) + one(0xb0+(long-3)/256) + one(long-3))
	for k := 3; k < long; k++ {
		b = append(b, byte(table+7*k+k/256))
	}
	return string(b)
}

// slow is a joiner by the words.
type slow struct {
	pid   int
	in    bool   // it follows
	taken string // since it began to
	told  int    // how many sections of these were answered
	seen  bool
	count int
	body  string
	lost  int
}

// ends is what bytes are, from a section's beginning on: whole sections, and what is left; stop tells that a byte 255 is where a section would begin, wrong that there is none there.
func ends(s string) (whole []string, left string, stop, wrong bool) {
	from, length := 0, 0
	for at := range len(s) {
		left = s[from : at+1]
		switch {
		case left == "\xff":
			return whole, "", true, false
		case len(left) == 3:
			length = 3 + int(left[1])%16*256 + int(left[2])
			if mark := left[1] / 16; mark != 0xb && mark != 0xf || length < 12 || length > 4096 {
				return whole, "", false, true
			}
		case len(left) > 3 && len(left) == length:
			whole, from = append(whole, left), at+1
		}
	}
	return whole, s[from:], false, false
}

// take takes bytes.
func (s *slow) take(text string) ([]string, api.Errno) {
	if !s.in {
		return nil, api.OK
	}
	s.taken += text
	whole, _, stop, wrong := ends(s.taken)
	whole, s.told = whole[s.told:], len(whole)
	if stop || wrong {
		s.out()
	}
	if wrong {
		return whole, api.ErrForm
	}
	return whole, api.OK
}

// out lets it hold nothing, and follow no more; begin lets it follow anew.
func (s *slow) out()   { s.in, s.taken, s.told = false, "", 0 }
func (s *slow) begin() { s.out(); s.in = true }

func (s *slow) held() string {
	_, left, _, _ := ends(s.taken)
	return left
}

func (s *slow) drop() { s.out(); s.seen, s.count, s.body = false, 0, "" }

// feed is what Feed must answer.
func (s *slow) feed(p packet.Packet) ([]string, api.Errno) {
	switch {
	case p.Pid < 0 || p.Pid > 8191 || p.Count < 0 || p.Count > 15:
		return nil, api.ErrRange
	case len(p.Body) > 184:
		return nil, api.ErrFull
	case p.Pid != s.pid:
		return nil, api.ErrKind
	case len(p.Body) == 0:
		return nil, api.OK
	case s.seen && s.count == p.Count && s.body == p.Body:
		return nil, api.OK
	case p.Bad:
		s.drop()
		s.lost++
		return nil, api.ErrLost
	}
	var errors []api.Errno
	if s.seen && (p.Count+16-s.count)%16 != 1 {
		s.out()
		s.lost++
		errors = append(errors, api.ErrLost)
	}
	s.seen, s.count, s.body = true, p.Count, p.Body
	var all []string
	took := func(text string) {
		l, e := s.take(text)
		all, errors = append(all, l...), append(errors, e)
	}
	switch r := int(p.Body[0]); {
	case !p.Start:
		took(p.Body)
	case len(p.Body) < 1+r:
		s.out()
		errors = append(errors, api.ErrForm)
	default:
		took(p.Body[1 : 1+r])
		s.begin()
		took(p.Body[1+r:])
	}
	for _, e := range []api.Errno{api.ErrForm, api.ErrLost} {
		if slices.Contains(errors, e) {
			return all, e
		}
	}
	return all, api.OK
}

// answer is what Feed, or Bytes, answers, and what is held, and lost, behind it.
type answer struct {
	l    []string
	e    api.Errno
	held string
	lost int
}

func (x answer) same(y answer) bool {
	return slices.Equal(x.l, y.l) && x.e == y.e && x.held == y.held && x.lost == y.lost
}

// text is an answer in a line.
func (x answer) text() string {
	s := x.e.Error() + ", lost " + strconv.Itoa(x.lost) + ", held " + brief(x.held)
	for _, t := range x.l {
		s += ", " + brief(t)
	}
	return s
}

// brief is how many bytes a text has, and the first ones.
func brief(s string) string {
	return strconv.Itoa(len(s)) + " " + strconv.Quote(s[:min(6, len(s))])
}

// line is a packet in a line.
func line(p packet.Packet) string {
	return strconv.Itoa(p.Pid) + " " + strconv.Itoa(p.Count) + " start " + strconv.FormatBool(p.Start) + " bad " + strconv.FormatBool(p.Bad) + " " + brief(p.Body)
}

// pair is a joiner, and the same one by the words.
type pair struct {
	j *joiner.Joiner
	s *slow
}

// both is a new one of that Pid.
func both(t *testing.T, pid int) pair {
	t.Helper()
	j, e := joiner.New(pid)
	if j == nil || e != api.OK || j.Held() != "" || j.Lost() != 0 {
		t.Fatalf("%d: %v", pid, e)
	}
	return pair{j, &slow{pid: pid}}
}

// fed is what the joiner answers.
func fed(j *joiner.Joiner, p packet.Packet) answer {
	l, e := j.Feed(p)
	return answer{l, e, j.Held(), j.Lost()}
}

// feed holds the joiner against the words.
func (x pair) feed(t *testing.T, p packet.Packet) answer {
	t.Helper()
	got := fed(x.j, p)
	l, e := x.s.feed(p)
	if want := (answer{l, e, x.s.held(), x.s.lost}); !got.same(want) {
		t.Fatalf("%s: %s, not %s", line(p), got.text(), want.text())
	}
	return got
}

// drop lets both drop what they have.
func (x pair) drop(t *testing.T) {
	t.Helper()
	lost := x.j.Lost()
	x.j.Drop()
	x.s.drop()
	if x.j.Held() != "" || x.j.Lost() != lost {
		t.Fatalf("Drop: held %s, lost %d, not %d", brief(x.j.Held()), x.j.Lost(), lost)
	}
}

// noise is numbers that follow no rule to be seen, the same ones at each run.
type noise uint64

func (s *noise) below(n int) int {
	*s = *s*6364136223846793005 + 1442695040888963407
	return int((uint64(*s) ^ uint64(*s)>>29) >> 33 % uint64(n))
}

func (s *noise) text(long int) string {
	b := make([]byte, long)
	for i := range b {
		b[i] = byte(s.below(256))
	}
	return string(b)
}

// size is how many bytes a section has: a few often, many seldom.
func (s *noise) size() int {
	switch s.below(8) {
	case 0:
		return 12 + s.below(4085)
	case 1:
		return 180 + s.below(10)
	case 2:
		return 183 + 184*s.below(20) + s.below(7)
	}
	return 12 + s.below(400)
}

// section is one of any table but 255, private or not, with any bytes, many of them 255.
func (s *noise) section(long int) string {
	t := []byte(one(s.below(255)) + one(0xb0+0x40*s.below(2)+(long-3)/256) + one(long-3) + s.text(long-3))
	if s.below(3) == 0 {
		copy(t[3:], ones(s.below(long)))
	}
	return string(t)
}

// sections is some of them, each another one than those ahead of it.
func (s *noise) sections(many int) []string {
	var l []string
	for len(l) < many {
		if t := s.section(s.size()); !slices.Contains(l, t) {
			l = append(l, t)
		}
	}
	return l
}

// rest is bytes with which those that are held are a section, or none, seldom.
func (s *noise) rest(held string) string {
	if held == "" {
		return ""
	}
	text := held
	if len(text) == 1 {
		text += one(0xb0 + s.below(2)*s.below(17))
	}
	if len(text) == 2 {
		text += one(7 + s.below(249))
	}
	long := 3 + int(text[1])%16*256 + int(text[2])
	return text[len(held):] + s.text(max(long-len(text), 0))
}

// packet is one that may be, with what a joiner may take next: often it goes on with what is held, and seldom does not.
func (s *noise) packet(x *slow) packet.Packet {
	ahead := s.rest(x.held())
	text := ahead
	for s.below(4) > 0 {
		switch s.below(12) {
		case 0:
			text += ones(1 + s.below(3))
		case 1:
			text += s.text(1 + s.below(5))
		case 2:
			text += s.section(s.size())
		default:
			text += s.section(12 + s.below(60))
		}
	}
	p := packet.Packet{Pid: x.pid, Start: s.below(2) == 0 && len(ahead) < 184, Count: (x.count + 1) % 16}
	if p.Start {
		r := len(ahead)
		if s.below(12) == 0 {
			r = s.below(256)
		}
		text = one(r) + text
	}
	p.Body = text[:min(len(text), 184)]
	switch s.below(24) {
	case 0:
		p.Count = s.below(16)
	case 1:
		p.Count, p.Body = x.count, x.body
	case 2:
		p.Count = x.count
	case 3:
		p.Bad = true
	case 4:
		p.Pid = s.below(8192)
	case 5:
		p.Body = ""
	case 6, 7:
		p.Body = p.Body[:s.below(len(p.Body)+1)]
	}
	return p
}
