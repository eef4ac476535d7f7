package schema

import (
	"coracle/api"
	"coracle/xdr"
)

// taker takes a value from a reader's bytes.
type taker struct {
	*xdr.Reader
	value api.Value
}

// taken: the value that is all of the bytes.
func taken(row []sign, s string) api.Value {
	t := taker{Reader: xdr.Open(s)}
	t.row(row)
	if e := t.End(); e != api.OK {
		refuse(e)
	}
	return t.value
}

func (t *taker) row(row []sign) {
	for _, g := range row {
		t.sign(g)
	}
}

func (t *taker) sign(g sign) {
	switch g.kind {
	case 'u':
		t.keep(t.Uint())
	case 'q':
		t.keep(t.Hyper())
	case 'b':
		t.keepBool()
	case 'o':
		t.keepText(t.Opaque(g.size))
	case 'f':
		t.keepText(t.Fixed(g.size))
	case '?':
		if t.keepBool() {
			t.row(g.inner)
		}
	case '*':
		t.times(g.inner)
	case '<':
		n := t.Uint()
		t.keep(n)
		t.row(chosen(g.arms, n))
	}
}

// times: the count stands ahead of what it counts, and is known behind it.
func (t *taker) times(inner []sign) {
	place := len(t.value.N)
	t.keep(0)
	for t.Bool() {
		t.value.N[place]++
		t.row(inner)
	}
	t.sure()
}

func (t *taker) keep(n int) {
	t.sure()
	t.value.N = append(t.value.N, n)
}

func (t *taker) keepText(s string) {
	t.sure()
	t.value.T = append(t.value.T, s)
}

func (t *taker) keepBool() bool {
	b := t.Bool()
	if b {
		t.keep(1)
	} else {
		t.keep(0)
	}
	return b
}

// sure: was all taken up to here? Only the first error counts, so none may be passed by. (That bytes are left is none as yet.)
func (t *taker) sure() {
	if e := t.End(); e != api.OK && e != api.ErrTail {
		refuse(e)
	}
}
