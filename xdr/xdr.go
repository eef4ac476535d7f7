// Package xdr is layer 1: see shared/doc/01-xdr.md.
package xdr

import "coracle/api"

const (
	uintSize  = 4
	hyperSize = 8
)

// noughts: how many bytes 00 stand behind n bytes, n at least 0.
func noughts(n int) int { return -n & 3 }

// Writer puts things behind one another.
type Writer struct {
	bytes []byte
}

// Uint: four bytes.
func (w *Writer) Uint(n int) { w.number(n, uintSize) }

// Hyper: eight bytes.
func (w *Writer) Hyper(n int) { w.number(n, hyperSize) }

// Bool: four bytes.
func (w *Writer) Bool(b bool) {
	if b {
		w.Uint(1)
	} else {
		w.Uint(0)
	}
}

// Opaque: a length, the bytes, and noughts.
func (w *Writer) Opaque(s string) {
	w.Uint(len(s))
	w.Fixed(s)
}

// Fixed: the bytes, and noughts.
func (w *Writer) Fixed(s string) {
	if w == nil {
		return
	}
	w.bytes = append(w.bytes, s...)
	for range noughts(len(s)) {
		w.bytes = append(w.bytes, 0)
	}
}

// Bytes: all of it.
func (w *Writer) Bytes() string {
	if w == nil {
		return ""
	}
	return string(w.bytes)
}

// number: the lowest bytes of n, the highest of them first.
func (w *Writer) number(n, size int) {
	if w == nil {
		return
	}
	for i := range size {
		w.bytes = append(w.bytes, byte(n>>(8*(size-1-i))))
	}
}

// Reader takes things from the front.
type Reader struct {
	rest  []byte // empty behind an error, so that nothing more is taken
	first api.Errno
}

// Open: a reader of bytes.
func Open(s string) *Reader { return &Reader{rest: []byte(s)} }

// Uint: four bytes.
func (r *Reader) Uint() int { return r.number(uintSize) }

// Hyper: eight bytes.
func (r *Reader) Hyper() int { return r.number(hyperSize) }

// Bool: four bytes.
func (r *Reader) Bool() bool {
	n := r.Uint()
	if n > 1 {
		r.fail(api.ErrForm)
	}
	return n == 1
}

// Opaque: a length, the bytes, and noughts.
func (r *Reader) Opaque(most int) string {
	n := r.Uint()
	if n > max(most, 0) {
		r.fail(api.ErrLong)
		return ""
	}
	return r.Fixed(n)
}

// Fixed: so many bytes, and noughts.
func (r *Reader) Fixed(n int) string {
	if r == nil || n < 0 {
		return ""
	}
	if n > len(r.rest)-noughts(n) { // n and its noughts together may be more than an int holds
		r.fail(api.ErrShort)
		return ""
	}
	text := string(r.take(n))
	for range noughts(n) {
		if r.take(1)[0] != 0 {
			r.fail(api.ErrForm)
			return ""
		}
	}
	return text
}

// Left: how many bytes are left.
func (r *Reader) Left() int {
	if r == nil {
		return 0
	}
	return len(r.rest)
}

// End: what went wrong first, or whether all was taken.
func (r *Reader) End() api.Errno {
	switch {
	case r == nil:
		return api.ErrArg
	case r.first != api.OK:
		return r.first
	case len(r.rest) > 0:
		return api.ErrTail
	}
	return api.OK
}

func (r *Reader) number(size int) int {
	if r == nil {
		return 0
	}
	if size > len(r.rest) {
		r.fail(api.ErrShort)
		return 0
	}
	n := 0
	for _, b := range r.take(size) {
		n = n<<8 | int(b)
	}
	return n
}

// take: the next n bytes, of which the caller knows that they are there.
func (r *Reader) take(n int) []byte {
	taken := r.rest[:n]
	r.rest = r.rest[n:]
	return taken
}

func (r *Reader) fail(e api.Errno) {
	if r.first == api.OK {
		r.first = e
	}
	r.rest = nil
}
