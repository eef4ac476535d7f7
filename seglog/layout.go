package seglog

import (
	"slices"
	"strings"

	"coracle/api"
)

const (
	wide     = 8 // bytes of a serial, a boot, a sequence number
	narrow   = 2 // bytes of a part's numbers
	headSize = 1 + 2*wide + 3*narrow
	partSize = api.Sector - headSize
	listAt   = 1 + 3*wide // where a checkpoint tells how many segments there are
)

// checkpoint is what a log knows of itself.
type checkpoint struct {
	serial, boot, seq int
	segments          []Segment
}

// spent: is there a number that can't be gone on from?
func (c checkpoint) spent() bool { return max(c.serial, c.boot, c.seq) >= limit }

// text: the checkpoint's bytes, without the noughts behind.
func (c checkpoint) text() string {
	b := []byte{'C'}
	for _, n := range []int{c.serial, c.boot, c.seq} {
		b = putNumber(b, n, wide)
	}
	b = append(b, byte(len(c.segments)))
	for _, s := range c.segments {
		b = append(b, byte(s.ID), byte(s.Used))
	}
	return string(b)
}

// takeCheckpoint: the checkpoint that a sector holds, on a disk of so many segments; is it right?
func takeCheckpoint(text string, segments int) (checkpoint, bool) {
	c := checkpoint{serial: number(text[1:], wide), boot: number(text[1+wide:], wide), seq: number(text[1+2*wide:], wide)}
	count, rest := int(text[listAt]), text[listAt+1:]
	if text[0] != 'C' || !counted(c.serial, c.boot, c.seq) || count < 1 || count > segments {
		return checkpoint{}, false
	}
	for i := range count {
		s := Segment{ID: int(rest[2*i]), Used: int(rest[2*i+1])}
		twice := slices.ContainsFunc(c.segments, func(other Segment) bool { return other.ID == s.ID })
		if twice || s.ID >= segments || s.Used > api.SegSize {
			return checkpoint{}, false
		}
		c.segments = append(c.segments, s)
	}
	return c, strings.Trim(rest[2*count:], "\x00") == ""
}

// putNumber: a number in so many bytes, the highest first.
func putNumber(b []byte, n, size int) []byte {
	for i := range size {
		b = append(b, byte(n>>(8*(size-1-i))))
	}
	return b
}

// number: the number in so many first bytes; one of eight bytes from 2^63 on comes out below 0.
func number(text string, size int) int {
	n := 0
	for i := range size {
		n = n<<8 | int(text[i])
	}
	return n
}

// counted: are all of them numbers that serials, boots and sequence numbers may be?
func counted(numbers ...int) bool {
	return !slices.ContainsFunc(numbers, func(n int) bool { return n < 0 || n > limit })
}

// mark is what all parts of a record have in common.
type mark struct {
	boot, seq, parts int
}

// part is what a sector holds of a record.
type part struct {
	mark
	place int
	bytes string
}

// partsOf: how many parts a body of so many bytes has.
func partsOf(size int) int {
	parts := size / partSize // not rounded up by a sum, which the greatest ints would overflow
	if size%partSize > 0 || size == 0 {
		parts++
	}
	return parts
}

// partTexts: the sectors of a record, without what is behind.
func partTexts(boot, seq int, body string) []string {
	parts := partsOf(len(body))
	var texts []string
	for place := range parts {
		bytes := body[place*partSize : min((place+1)*partSize, len(body))]
		b := putNumber([]byte{'R'}, boot, wide)
		b = putNumber(b, seq, wide)
		for _, n := range []int{place, parts, len(bytes)} {
			b = putNumber(b, n, narrow)
		}
		texts = append(texts, string(append(b, bytes...)))
	}
	return texts
}

// takePart: the part that a sector holds; is there one?
func takePart(text string) (part, bool) {
	p := part{mark: mark{boot: number(text[1:], wide), seq: number(text[1+wide:], wide)}}
	rest := text[1+2*wide:]
	p.place, p.parts = number(rest, narrow), number(rest[narrow:], narrow)
	size := number(rest[2*narrow:], narrow)
	if text[0] != 'R' || !counted(p.boot, p.seq) || p.parts < 1 || p.parts > api.SegSize || size > partSize {
		return part{}, false
	}
	p.bytes = text[headSize : headSize+size]
	return p, true
}

// takeRecord: the mark and the body of the record that stands in the first of these sectors; is there a whole one? How the bytes are shared out among the parts isn't asked: that all but the last are full holds for what is appended alone.
func takeRecord(sectors []string) (mark, string, bool) {
	if len(sectors) == 0 {
		return mark{}, "", false
	}
	first, ok := takePart(sectors[0])
	if !ok || first.parts > len(sectors) {
		return mark{}, "", false
	}
	body := ""
	for i, text := range sectors[:first.parts] {
		p, ok := takePart(text)
		if !ok || p.mark != first.mark || p.place != i {
			return mark{}, "", false
		}
		body += p.bytes
	}
	return first.mark, body, true
}
