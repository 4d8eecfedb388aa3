package gf_test

import (
	"testing"

	"clarion/api"
)

// Package api is held against the document from here, as its own folder is left as it is given.
//
// DOC.md, Words: the errors' numbers, and the word of an error.
func TestErrors(t *testing.T) {
	for _, c := range []struct {
		e    api.Errno
		n    int
		word string
	}{
		{api.OK, 0, "error 0"}, {api.ErrArg, 1, "error 1"}, {api.ErrNil, 2, "error 2"},
		{api.ErrShort, 10, "error 10"}, {api.ErrLong, 11, "error 11"}, {api.ErrForm, 12, "error 12"},
		{api.ErrSum, 13, "error 13"}, {api.ErrKind, 14, "error 14"}, {api.ErrRange, 15, "error 15"},
		{api.ErrZero, 16, "error 16"}, {api.ErrFull, 17, "error 17"}, {api.ErrNone, 18, "error 18"},
		{api.ErrMend, 19, "error 19"}, {api.ErrSync, 20, "error 20"}, {api.ErrLost, 21, "error 21"},
		{api.ErrOrder, 22, "error 22"}, {api.ErrConfig, 23, "error 23"},
	} {
		if int(c.e) != c.n || c.e.Error() != c.word {
			t.Errorf("%d, %q, not %d, %q", int(c.e), c.e.Error(), c.n, c.word)
		}
	}
}

// DOC.md, Limits.
func TestLimits(t *testing.T) {
	got := [8]int{api.Data, api.Parity, api.Word, api.Packet, api.Pids, api.MaxBody, api.MaxRows, api.MaxPart}
	want := [8]int{191, 64, 255, 188, 8192, 4080, 1024, 4096}
	if got != want {
		t.Errorf("%v, not %v", got, want)
	}
}
