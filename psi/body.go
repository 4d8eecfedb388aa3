package psi

import (
	"strings"

	"clarion/api"
	"clarion/section"
)

const (
	ofProgram = 4      // bytes of a program
	ofPiece   = 4      // bytes of a piece beside its Info
	onPid     = 0xe000 // the bits that stand ahead of a Pid
	onLong    = 0xf000 // those ahead of how many bytes an Info has
	longs     = 0x0fff // the bits that tell it
)

// piece is what bodies tell in one way of the clock and of a stream.
type piece struct {
	pid  int
	info string
}

// carrier is the section of a Pat that may be.
func (x Pat) carrier() section.Section {
	var body strings.Builder
	for _, p := range x.Programs {
		body.WriteString(two(p.Number) + two(p.Pid+onPid))
	}
	return carrier(TablePat, x.Stream, x.Version, body.String())
}

// carrier is the section of a Pmt that may be.
func (x Pmt) carrier() section.Section {
	var body strings.Builder
	body.WriteString(piece{x.Clock, x.Info}.text())
	for _, s := range x.Streams {
		body.WriteString(string([]byte{byte(s.Kind)}) + piece{s.Pid, s.Info}.text())
	}
	return carrier(TablePmt, x.Program, x.Version, body.String())
}

// carrier is what these sections have.
func carrier(table, ext, version int, body string) section.Section {
	return section.Section{Table: table, Ext: ext, Version: version, Now: true, Body: body}
}

// long is how many bytes a Pmt's body has: asked ahead of making it, as there may be very many.
func (x Pmt) long() int {
	n := ofPiece + len(x.Info)
	for _, s := range x.Streams {
		n += 1 + ofPiece + len(s.Info)
	}
	return n
}

// text is a piece's bytes.
func (p piece) text() string { return two(p.pid+onPid) + two(len(p.info)+onLong) + p.info }

// readPat is what a section tells, be it one of a Pat that may be or not.
func readPat(s section.Section) (Pat, api.Errno) {
	l, e := takeAll(s.Body, takeProgram)
	return Pat{Stream: s.Ext, Version: s.Version, Programs: l}, e
}

// readPmt is what a section tells, be it one of a Pmt that may be or not.
func readPmt(s section.Section) (Pmt, api.Errno) {
	clock, rest, e := takePiece(s.Body)
	if e != api.OK {
		return Pmt{}, e
	}
	l, e := takeAll(rest, takeStream)
	return Pmt{Program: s.Ext, Version: s.Version, Clock: clock.pid, Info: clock.info, Streams: l}, e
}

// takeAll takes off a text what it has, one by one.
func takeAll[T any](rest string, take func(string) (T, string, api.Errno)) ([]T, api.Errno) {
	var l []T
next:
	if rest == "" {
		return l, api.OK
	}
	x, behind, e := take(rest)
	if e != api.OK {
		return nil, e
	}
	l, rest = append(l, x), behind
	goto next
}

// takeProgram takes a program off a text; what is behind it.
func takeProgram(s string) (Program, string, api.Errno) {
	if len(s) < ofProgram {
		return Program{}, "", api.ErrShort
	}
	return Program{Number: ofTwo(s), Pid: ofTwo(s[2:]) & lastPid}, s[ofProgram:], api.OK
}

// takeStream takes a stream off a text that has bytes; what is behind it.
func takeStream(s string) (Stream, string, api.Errno) {
	p, rest, e := takePiece(s[1:])
	if e != api.OK {
		return Stream{}, "", e
	}
	return Stream{Kind: int(s[0]), Pid: p.pid, Info: p.info}, rest, api.OK
}

// takePiece takes a piece off a text; what is behind it.
func takePiece(s string) (piece, string, api.Errno) {
	if len(s) < ofPiece {
		return piece{}, "", api.ErrShort
	}
	pid, n, rest := ofTwo(s)&lastPid, ofTwo(s[2:])&longs, s[ofPiece:]
	if len(rest) < n {
		return piece{}, "", api.ErrShort
	}
	// What is cut out of a greater text would keep all of it.
	return piece{pid, strings.Clone(rest[:n])}, rest[n:], api.OK
}

// two is a number as two bytes, the high one first; ofTwo is that of a text's first two.
func two(n int) string   { return string([]byte{byte(n >> 8), byte(n)}) }
func ofTwo(s string) int { return int(s[0])<<8 | int(s[1]) }
