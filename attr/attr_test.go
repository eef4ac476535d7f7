package attr_test

import (
	"math"
	"slices"
	"testing"

	"coracle/api"
	"coracle/attr"
	"coracle/schema"
)

// counted: an Attr each of whose numbers is its place in Put's answer, and one more.
var counted = attr.Attr{
	Kind: 1, Mode: 2, Links: 3, UID: 4, GID: 5,
	Size: 6, Used: 7,
	Major: 8, Minor: 9,
	Fsid: 10, ID: 11,
	Access: attr.Time{S: 12, N: 13},
	Modify: attr.Time{S: 14, N: 15},
	Change: attr.Time{S: 16, N: 17},
}

// upward: the numbers from 1 to n.
func upward(n int) []int {
	var all []int
	for i := range n {
		all = append(all, i+1)
	}
	return all
}

// untouched: a list with room behind it, and a question whether the list and the room are as they were.
func untouched(n []int) ([]int, func() bool) {
	room := append(slices.Clone(n), 901, 902, 903)
	before := slices.Clone(room)
	return room[:len(n)], func() bool { return slices.Equal(room, before) }
}

// spoil: writes over a list and the room behind it.
func spoil(n []int) {
	n = n[:cap(n)]
	for i := range n {
		n[i] = -77
	}
}

// The kinds are RFC 1813's.
func TestKinds(t *testing.T) {
	kinds := []int{attr.Reg, attr.Dir, attr.Blk, attr.Chr, attr.Lnk, attr.Sock, attr.Fifo}
	if !slices.Equal(kinds, upward(7)) {
		t.Errorf("kinds %v", kinds)
	}
}

// P9.1: the forms, which layer 2 takes as such.
func TestForm(t *testing.T) {
	a, s := attr.Form()
	if a != "uuuuuqquuqquuuuuu" || s != "?(u)?(u)?(u)?(q)<0:,1:,2:uu><0:,1:,2:uu>" {
		t.Errorf("%s, %s", a, s)
	}
	if !schema.Check(a) || !schema.Check(s) {
		t.Error("no forms of layer 2")
	}
}

// P9.1: the order of an Attr's numbers.
func TestPut(t *testing.T) {
	if n := attr.Put(counted); !slices.Equal(n, upward(17)) {
		t.Errorf("Put: %v", n)
	}
	if n := attr.Put(attr.Attr{}); !slices.Equal(n, make([]int, 17)) {
		t.Errorf("Put of a zero one: %v", n)
	}
	extreme := attr.Attr{Kind: math.MinInt, Size: math.MaxInt, Change: attr.Time{N: -1}}
	n := attr.Put(extreme)
	if len(n) != 17 || n[0] != math.MinInt || n[5] != math.MaxInt || n[16] != -1 {
		t.Errorf("Put of extreme numbers: %v", n)
	}
	if a, rest, ok := attr.Get(n); a != extreme || len(rest) != 0 || !ok {
		t.Errorf("Get of extreme numbers: %v %v %v", a, rest, ok)
	}
	one, two := attr.Put(counted), attr.Put(counted)
	spoil(one)
	if !slices.Equal(two, upward(17)) || !slices.Equal(attr.Put(counted), upward(17)) {
		t.Error("answers of Put share memory")
	}
}

// P9.1: an Attr of the first 17 numbers, and all others.
func TestGet(t *testing.T) {
	for more := range 40 {
		all := upward(17 + more)
		n, same := untouched(all)
		a, rest, ok := attr.Get(n)
		if a != counted || !slices.Equal(rest, all[17:]) || !ok {
			t.Errorf("%d more: %v %v %v", more, a, rest, ok)
		}
		spoil(rest)
		if !same() {
			t.Errorf("%d more: what is left shares memory with the argument", more)
		}
	}
}

// P9.1: fewer numbers than 17.
func TestGetFew(t *testing.T) {
	for few := range 17 {
		n, same := untouched(upward(few))
		if a, rest, ok := attr.Get(n); a != (attr.Attr{}) || len(rest) != 0 || ok {
			t.Errorf("%d numbers: %v %v %v", few, a, rest, ok)
		}
		if !same() {
			t.Errorf("%d numbers: the argument is changed", few)
		}
	}
	if a, rest, ok := attr.Get(nil); a != (attr.Attr{}) || len(rest) != 0 || ok {
		t.Errorf("nil: %v %v %v", a, rest, ok)
	}
}

// P9.1: an Attr's numbers are a value of its form, and come back by it.
func TestAttrByForm(t *testing.T) {
	form, _ := attr.Form()
	s, e := schema.Encode(form, api.Value{N: attr.Put(counted)})
	if e != api.OK || len(s) != 84 {
		t.Fatalf("Encode: %d bytes, %v", len(s), e)
	}
	v, e := schema.Decode(form, s)
	if a, rest, ok := attr.Get(v.N); e != api.OK || a != counted || len(rest) != 0 || !ok {
		t.Errorf("%v %v %v %v", a, rest, ok, e)
	}
	big := attr.Attr{Size: math.MaxInt, Used: math.MinInt, Fsid: -1, ID: 1 << 40, Mode: 1<<32 - 1}
	if _, e := schema.Encode(form, api.Value{N: attr.Put(big)}); e != api.OK {
		t.Errorf("Size, Used, Fsid and ID are Hypers: %v", e)
	}
}
