package psi_test

import (
	"testing"

	"clarion/api"
	"clarion/psi"
)

// back holds that a table that may be goes as a section, and comes back; and that what is decoded is encoded as the same bytes.
func back[T any](t *testing.T, w way[T], x T) {
	t.Helper()
	w.encodes(t, "there", x, api.OK)
	text, _ := w.encode(x)
	w.decodes(t, "back", text, x, api.OK)
	y, _ := w.decode(text)
	if s, e := w.encode(y); s != text || e != api.OK {
		t.Errorf("%v: %q, %v, not %q", y, s, e, text)
	}
	if len(text) < 12 || len(text) > 1024 {
		t.Errorf("%v: %d bytes", x, len(text))
	}
}

// P17.4: what was encoded is decoded: tables of each size.
func TestDecodeOfEncode(t *testing.T) {
	s := noise(3)
	for many := range 254 {
		back(t, pats(), s.pat(many))
	}
	for range 1000 {
		back(t, pats(), s.pat(s.below(20)))
		back(t, pmts(), s.pmt(s.below(20)))
	}
	for many := range 202 {
		back(t, pmts(), psi.Pmt{Program: many, Clock: 8191 - many, Streams: streams(many)})
	}
	for long := range 1004 {
		back(t, pmts(), psi.Pmt{Program: long, Info: s.text(long), Streams: []psi.Stream{{Kind: 3, Pid: long, Info: s.text(1003 - long)}}})
		back(t, pmts(), psi.Pmt{Version: long % 32, Info: s.text(long / 2), Streams: []psi.Stream{{Info: s.text(long / 3)}, {Pid: 1}}})
	}
}

// P17.4: what is decoded is encoded as the same bytes: there are no two ways to write a table. One bit of the bytes is another one, the check sum being made anew.
func TestEncodeOfWhatIsDecoded(t *testing.T) {
	s := noise(11)
	seen := map[api.Errno]int{}
	for range 400 {
		x, _ := slowPat(s.pat(s.below(8)))
		y, _ := slowPmt(s.pmt(s.below(8)))
		for at := range 8 * (len(x) - 4) {
			seen[same(t, pats(), again(put(x, at/8, int(x[at/8])^128>>(at%8))))]++
		}
		for range 60 {
			at := s.below(8 * (len(y) - 4))
			seen[same(t, pmts(), again(put(y, at/8, int(y[at/8])^128>>(at%8))))]++
		}
	}
	for _, e := range []api.Errno{api.OK, api.ErrKind, api.ErrShort, api.ErrLong, api.ErrForm} {
		if seen[e] < 300 {
			t.Error("too few of a kind:", e, seen[e])
		}
	}
}

// same holds Decode of bytes against the words, and that of what is decoded the same bytes are made.
func same[T any](t *testing.T, w way[T], text string) api.Errno {
	t.Helper()
	e := w.reads(t, "a bit", text)
	if e == api.OK {
		x, _ := w.decode(text)
		if s, e := w.encode(x); s != text || e != api.OK {
			t.Errorf("%q: %q, %v", text, s, e)
		}
	}
	return e
}

// P17.2: no byte can be turned: each place, each other byte, and the error by the words.
func TestOneOtherByte(t *testing.T) {
	x, y := goodPat(patBody).bytes(), goodPmt(pmtBody).bytes()
	for n := range 256 {
		for at := range len(x) {
			if e := pats().reads(t, "byte", put(x, at, n)); (e == api.OK) != (int(x[at]) == n) {
				t.Errorf("byte %d is %d: %v", at, n, e)
			}
		}
		for at := range len(y) {
			if e := pmts().reads(t, "byte", put(y, at, n)); (e == api.OK) != (int(y[at]) == n) {
				t.Errorf("byte %d is %d: %v", at, n, e)
			}
		}
	}
}

// R3: what was asked ahead changes nothing; what is there twice is found however often it is looked for.
func TestAskedAgain(t *testing.T) {
	x, y := onePat(), onePmt()
	for range 200 {
		pats().encodes(t, "again", x, api.OK)
		pmts().encodes(t, "again", y, api.OK)
		pats().encodes(t, "twice", psi.Pat{Programs: append(programs(90), psi.Program{Number: 45})}, api.ErrForm)
		pmts().encodes(t, "twice", psi.Pmt{Streams: append(streams(90), psi.Stream{Pid: 45})}, api.ErrForm)
		pats().fails(t, "of a Pmt", goodPmt(pmtBody).bytes(), api.ErrKind)
		pmts().fails(t, "of a Pat", goodPat(patBody).bytes(), api.ErrKind)
		pats().decodes(t, "again", goodPat(patBody).bytes(), x, api.OK)
		pmts().decodes(t, "again", goodPmt(pmtBody).bytes(), y, api.OK)
		findsPid(t, x, 5, 256, api.OK)
		findsStream(t, y, 0, psi.Stream{Kind: 144}, api.OK)
	}
}
