package schema

import (
	"strconv"
	"strings"

	"coracle/api"
)

const (
	maxForm   = 1000 // bytes of a form
	maxDigits = 5    // of N and of K
	maxUint   = 1<<32 - 1
	others    = -1 // the number of an arm whose K is "-"
)

// sign is one sign of a form, with what stands in it.
type sign struct {
	kind  byte   // the byte that it begins with
	size  int    // N of o and f
	inner []sign // F of ? and *
	arms  []arm  // of <
}

// arm is one K:F.
type arm struct {
	number int
	inner  []sign
}

// chosen: the F that stands behind a number. The arm of all others is the last one.
func chosen(arms []arm, number int) []sign {
	for _, a := range arms {
		if a.number == number || a.number == others {
			return a.inner
		}
	}
	refuse(api.ErrForm)
	return nil
}

// parse: the signs of a form. What is no form is refused with ErrArg.
func parse(form string) []sign {
	if len(form) > maxForm {
		refuse(api.ErrArg)
	}
	p := parser{rest: form}
	row := p.row()
	if p.rest != "" {
		refuse(api.ErrArg)
	}
	return row
}

type parser struct {
	rest string
	nest int // how many brackets are open
}

// row: as many signs as there are.
func (p *parser) row() []sign {
	var row []sign
	for p.rest != "" && strings.IndexByte("uqbof?*<", p.rest[0]) >= 0 {
		row = append(row, p.sign())
	}
	return row
}

func (p *parser) sign() sign {
	g := sign{kind: p.rest[0]}
	p.rest = p.rest[1:]
	switch g.kind {
	case 'o', 'f':
		g.size = p.number()
	case '?':
		g.inner = p.bracket()
	case '*':
		g.inner = p.bracket()
		if len(g.inner) == 0 { // else a value could count things that it doesn't hold
			refuse(api.ErrArg)
		}
	case '<':
		g.arms = p.choice()
	}
	return g
}

func (p *parser) bracket() []sign {
	p.want("(")
	p.open()
	row := p.row()
	p.want(")")
	p.nest--
	return row
}

// choice: all K:F behind a "<", up to its ">".
func (p *parser) choice() []arm {
	p.open()
	var arms []arm
	for more := true; more; more = p.has(",") {
		a := p.arm()
		for _, b := range arms {
			if b.number == a.number || b.number == others { // "-" must be the last one
				refuse(api.ErrArg)
			}
		}
		arms = append(arms, a)
	}
	p.want(">")
	p.nest--
	return arms
}

func (p *parser) arm() arm {
	number := others
	if !p.has("-") {
		number = p.number()
	}
	p.want(":")
	return arm{number: number, inner: p.row()}
}

func (p *parser) number() int {
	n := 0
	for n < len(p.rest) && n < maxDigits && '0' <= p.rest[n] && p.rest[n] <= '9' {
		n++
	}
	digits := p.rest[:n]
	if n == 0 || n > 1 && digits[0] == '0' {
		refuse(api.ErrArg)
	}
	p.rest = p.rest[n:]
	number, _ := strconv.Atoi(digits) // five digits at most: always a number
	return number
}

func (p *parser) open() {
	p.nest++
	if p.nest > api.MaxNest {
		refuse(api.ErrArg)
	}
}

// has: takes a mark, if it comes next.
func (p *parser) has(mark string) bool {
	rest, ok := strings.CutPrefix(p.rest, mark)
	p.rest = rest
	return ok
}

func (p *parser) want(mark string) {
	if !p.has(mark) {
		refuse(api.ErrArg)
	}
}
