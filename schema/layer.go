package schema

import (
	"math"

	"coracle/api"
	"coracle/xdr"
)

// layer lays a value out by a writer. What isn't just a value of the form is refused with ErrForm.
type layer struct {
	xdr.Writer
	numbers []int    // not laid out yet
	texts   []string // not laid out yet
}

// laid: the bytes of just this value.
func laid(row []sign, v api.Value) string {
	l := layer{numbers: v.N, texts: v.T}
	l.row(row)
	if len(l.numbers) > 0 || len(l.texts) > 0 {
		refuse(api.ErrForm)
	}
	return l.Bytes()
}

func (l *layer) row(row []sign) {
	for _, g := range row {
		l.sign(g)
	}
}

func (l *layer) sign(g sign) {
	switch g.kind {
	case 'u':
		l.Uint(l.number(0, maxUint))
	case 'q':
		l.Hyper(l.number(math.MinInt, math.MaxInt))
	case 'b':
		l.flag()
	case 'o':
		l.Opaque(l.text(0, g.size))
	case 'f':
		l.Fixed(l.text(g.size, g.size))
	case '?':
		if l.flag() {
			l.row(g.inner)
		}
	case '*':
		l.times(g.inner)
	case '<':
		n := l.number(0, maxUint)
		l.Uint(n)
		l.row(chosen(g.arms, n))
	}
}

// times ends however great the count is: each time at least one number or text is needed.
func (l *layer) times(inner []sign) {
	for range l.number(0, math.MaxInt) {
		l.Bool(true)
		l.row(inner)
	}
	l.Bool(false)
}

func (l *layer) flag() bool {
	b := l.number(0, 1) == 1
	l.Bool(b)
	return b
}

// number: the next number, which must be from least to most.
func (l *layer) number(least, most int) int {
	if len(l.numbers) == 0 {
		refuse(api.ErrForm)
	}
	n := l.numbers[0]
	if n < least || n > most {
		refuse(api.ErrForm)
	}
	l.numbers = l.numbers[1:]
	return n
}

// text: the next text, which must have from least to most bytes.
func (l *layer) text(least, most int) string {
	if len(l.texts) == 0 {
		refuse(api.ErrForm)
	}
	s := l.texts[0]
	if len(s) < least || len(s) > most {
		refuse(api.ErrForm)
	}
	l.texts = l.texts[1:]
	return s
}
