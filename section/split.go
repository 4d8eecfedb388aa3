package section

import (
	"strings"

	"clarion/api"
)

// Split is a text as sections.
func Split(table, ext, version int, body string) ([]Section, api.Errno) {
	last := max(len(body)-1, 0) / room
	if last > top {
		return nil, api.ErrFull
	}
	s := Section{Table: table, Ext: ext, Version: version, Now: true, Last: last}
	if e := Check(s); e != api.OK {
		return nil, e
	}
	l := make([]Section, last+1)
	all := []byte(body)
	for n := range l {
		s.Number, s.Body = n, string(piece(all, n))
		l[n] = s
	}
	return l, api.OK
}

// piece is the n-th piece of bytes. It ends for good where the next one begins: what is put behind it is not written into that one.
func piece(all []byte, n int) []byte {
	from, to := n*room, min((n+1)*room, len(all))
	return all[from:to:to]
}

// Join is the text that sections are.
func Join(l ...Section) (string, api.Errno) {
	if e := may(l); e != api.OK {
		return "", e
	}
	var all strings.Builder
	for _, s := range l {
		all.WriteString(s.Body)
	}
	return all.String(), api.OK
}

// may is what is wrong with sections that are to be joined. Each error is asked of all of them ahead of the next one, as that is how they are named.
func may(l []Section) api.Errno {
	if len(l) == 0 {
		return api.ErrNone
	}
	for _, s := range l {
		if e := Check(s); e != api.OK {
			return e
		}
	}
	for _, s := range l {
		if same(s) != same(l[0]) {
			return api.ErrKind
		}
	}
	if len(l) != l[0].Last+1 {
		return api.ErrOrder
	}
	for n, s := range l {
		if s.Number != n {
			return api.ErrOrder
		}
	}
	return api.OK
}

// same is a section without what is its own: the rest is the same in all of a text.
func same(s Section) Section {
	s.Number, s.Body = 0, ""
	return s
}
