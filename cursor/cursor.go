// Package cursor goes through bytes, and never past them: layer 1.
package cursor

import (
	"strings"

	"hatchway/api"
)

// Reader goes through bytes from the first one on, up to its first fault.
type Reader struct {
	text  string
	at    int
	fault api.Errno
}

// Read is a reader at the first byte of s.
func Read(s string) *Reader {
	return &Reader{text: s}
}

// step does one thing, and faults what it answers. It is the only place that
// asks for a fault, so that no method can forget to: of nil, or behind a
// fault, nothing is done.
func (r *Reader) step(do func() api.Errno) {
	if r.Fault() == api.OK {
		r.fault = do()
	}
}

// next copies, so that a short text that is told doesn't hold on to all the
// bytes that it stood in.
func (r *Reader) next(n int) string {
	return strings.Clone(r.text[r.at : r.at+n])
}

// Byte passes the next byte.
func (r *Reader) Byte() (b byte) {
	r.step(func() api.Errno {
		if r.Left() == 0 {
			return api.ErrShort
		}
		b = r.text[r.at]
		r.at++
		return api.OK
	})
	return b
}

// Take passes the next n bytes.
func (r *Reader) Take(n int) (s string) {
	r.step(func() api.Errno {
		if n < 0 {
			return api.ErrArg
		}
		// n is held against what is left, as at+n might wrap round.
		if n > r.Left() {
			return api.ErrShort
		}
		s = r.next(n)
		r.at += n
		return api.OK
	})
	return s
}

// All passes all bytes that are left.
func (r *Reader) All() string {
	return r.Take(r.Left())
}

// Ahead tells the next n bytes, or as many as are left, and passes nothing.
func (r *Reader) Ahead(n int) (s string) {
	r.step(func() api.Errno {
		s = r.next(min(max(n, 0), r.Left()))
		return api.OK
	})
	return s
}

// Left is how many bytes weren't passed.
func (r *Reader) Left() int {
	if r == nil {
		return 0
	}
	return len(r.text) - r.at
}

// At is how many bytes were passed.
func (r *Reader) At() int {
	if r == nil {
		return 0
	}
	return r.at
}

// Fail faults e, if nothing was faulted yet.
func (r *Reader) Fail(e api.Errno) {
	r.step(func() api.Errno { return e })
}

// Fault is the first error that was met, or OK.
func (r *Reader) Fault() api.Errno {
	if r == nil {
		return api.ErrArg
	}
	return r.fault
}
