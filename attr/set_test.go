package attr_test

import (
	"math"
	"slices"
	"testing"

	"coracle/api"
	"coracle/attr"
	"coracle/schema"
)

// cut: the Set without what it says that it doesn't have.
func cut(s attr.Set) attr.Set {
	if !s.HasMode {
		s.Mode = 0
	}
	if !s.HasUID {
		s.UID = 0
	}
	if !s.HasGID {
		s.GID = 0
	}
	if !s.HasSize {
		s.Size = 0
	}
	if s.HowAccess != 2 {
		s.Access = attr.Time{}
	}
	if s.HowModify != 2 {
		s.Modify = attr.Time{}
	}
	return s
}

// numbersOf: a Set's numbers, by a rule of the tests' own.
func numbersOf(s attr.Set) []int {
	var n []int
	has := [4]bool{s.HasMode, s.HasUID, s.HasGID, s.HasSize}
	for i, number := range [4]int{s.Mode, s.UID, s.GID, s.Size} {
		if has[i] {
			n = append(n, 1, number)
		} else {
			n = append(n, 0)
		}
	}
	moments := [2]attr.Time{s.Access, s.Modify}
	for i, how := range [2]int{s.HowAccess, s.HowModify} {
		n = append(n, how)
		if how == 2 {
			n = append(n, moments[i].S, moments[i].N)
		}
	}
	return n
}

// allSets: a Set for each choice of what it has, with all its numbers, also those that it doesn't have.
func allSets() []attr.Set {
	var all []attr.Set
	for has := range 16 {
		for how := range 9 {
			all = append(all, attr.Set{
				HasMode: has&1 != 0, HasUID: has&2 != 0, HasGID: has&4 != 0, HasSize: has&8 != 0,
				Mode: 0644, UID: 21, GID: 22, Size: 23,
				HowAccess: how % 3, HowModify: how / 3,
				Access: attr.Time{S: 24, N: 25}, Modify: attr.Time{S: 26, N: 27},
			})
		}
	}
	return all
}

// full: a Set that has all.
var full = attr.Set{
	HasMode: true, HasUID: true, HasGID: true, HasSize: true,
	Mode: 10, UID: 11, GID: 12, Size: 13,
	HowAccess: 2, HowModify: 2,
	Access: attr.Time{S: 14, N: 15}, Modify: attr.Time{S: 16, N: 17},
}

// P9.2: what stands in PutSet's answer, written out.
func TestPutSet(t *testing.T) {
	for _, c := range []struct {
		set  attr.Set
		want []int
	}{
		{attr.Set{}, []int{0, 0, 0, 0, 0, 0}},
		{full, []int{1, 10, 1, 11, 1, 12, 1, 13, 2, 14, 15, 2, 16, 17}},
		{attr.Set{HasUID: true, UID: -5, HowModify: 1}, []int{0, 1, -5, 0, 0, 0, 1}},
		{attr.Set{HasSize: true, HowAccess: 2, Access: attr.Time{S: 7}}, []int{0, 0, 0, 1, 0, 2, 7, 0, 0}},
		{attr.Set{Mode: 1, UID: 2, GID: 3, Size: 4, Access: attr.Time{S: 5, N: 6}, Modify: attr.Time{S: 7, N: 8}}, []int{0, 0, 0, 0, 0, 0}},
		{attr.Set{HowAccess: 3, Access: attr.Time{S: 5, N: 6}, HowModify: -1, Modify: attr.Time{S: 7, N: 8}}, []int{0, 0, 0, 0, 3, -1}},
		{attr.Set{HowAccess: math.MinInt, HowModify: math.MaxInt}, []int{0, 0, 0, 0, math.MinInt, math.MaxInt}},
	} {
		if n := attr.PutSet(c.set); !slices.Equal(n, c.want) {
			t.Errorf("PutSet(%v): %v, not %v", c.set, n, c.want)
		}
	}
	one, two := attr.PutSet(full), attr.PutSet(full)
	spoil(one)
	if !slices.Equal(two, numbersOf(full)) || !slices.Equal(attr.PutSet(full), numbersOf(full)) {
		t.Error("answers of PutSet share memory")
	}
}

// P9.2: each Set there and back, with what is left behind it.
func TestGetSet(t *testing.T) {
	for _, s := range allSets() {
		put := attr.PutSet(s)
		if !slices.Equal(put, numbersOf(s)) {
			t.Errorf("PutSet(%v): %v", s, put)
		}
		for _, tail := range [][]int{nil, {5}, {1, 2, 3}, upward(40)} {
			n, same := untouched(append(slices.Clone(put), tail...))
			x, rest, ok := attr.GetSet(n)
			if x != cut(s) || !slices.Equal(rest, tail) || !ok {
				t.Errorf("GetSet(%v): %v %v %v", n, x, rest, ok)
			}
			spoil(rest)
			if !same() {
				t.Errorf("GetSet(%v): what is left shares memory with the argument", n)
			}
		}
	}
}

// refusedSet: is it refused, with nothing beside the false and the argument as it was?
func refusedSet(t *testing.T, n []int) {
	t.Helper()
	n, same := untouched(n)
	if s, rest, ok := attr.GetSet(n); s != (attr.Set{}) || len(rest) != 0 || ok {
		t.Errorf("GetSet(%v): %v %v %v", n, s, rest, ok)
	}
	if !same() {
		t.Errorf("GetSet(%v): the argument is changed", n)
	}
}

// P9.2: too few numbers, wherever they end.
func TestGetSetFew(t *testing.T) {
	refusedSet(t, nil)
	for _, s := range allSets() {
		put := attr.PutSet(s)
		for few := range put {
			refusedSet(t, put[:few])
		}
	}
}

// P9.2: one of the first four isn't 0 or 1, or a How isn't 0, 1 or 2.
func TestGetSetWrong(t *testing.T) {
	tail := []int{0, 0, 0, 0, 0, 0, 0, 0}
	for _, s := range allSets() {
		put := append(attr.PutSet(s), tail...)
		place := 0
		for part := range 6 {
			wrong := []int{-1, 2, 3, 1 << 32, 1<<32 + 1, math.MinInt, math.MaxInt}
			behind := 1 // a part's numbers, the one that is made wrong included
			if part < 4 && put[place] == 1 {
				behind = 2
			}
			if part >= 4 {
				wrong[1] = -2
			}
			if part >= 4 && put[place] == 2 {
				behind = 3
			}
			for _, x := range wrong {
				n := slices.Clone(put)
				n[place] = x
				refusedSet(t, n)
			}
			place += behind
		}
	}
}

// P9.2: any number may stand behind a 1, and in a moment.
func TestGetSetNumbers(t *testing.T) {
	for _, x := range []int{math.MinInt, -1, 0, 1, 2, 1 << 32, math.MaxInt} {
		s, rest, ok := attr.GetSet([]int{1, x, 1, x, 1, x, 1, x, 2, x, x, 2, x, x, x})
		moment := attr.Time{S: x, N: x}
		want := attr.Set{
			HasMode: true, HasUID: true, HasGID: true, HasSize: true, Mode: x, UID: x, GID: x, Size: x,
			HowAccess: 2, HowModify: 2, Access: moment, Modify: moment,
		}
		if s != want || !slices.Equal(rest, []int{x}) || !ok {
			t.Errorf("%d: %v %v %v", x, s, rest, ok)
		}
	}
}

// P9.2: a Set's numbers are a value of its form, and come back by it.
func TestSetByForm(t *testing.T) {
	_, form := attr.Form()
	for _, s := range allSets() {
		b, e := schema.Encode(form, api.Value{N: attr.PutSet(s)})
		if e != api.OK {
			t.Errorf("Encode of %v: %v", s, e)
		}
		v, e := schema.Decode(form, b)
		if x, rest, ok := attr.GetSet(v.N); e != api.OK || x != cut(s) || len(rest) != 0 || !ok {
			t.Errorf("%v: %v %v %v %v", s, x, rest, ok, e)
		}
	}
	for _, how := range []int{-1, 3} {
		if _, e := schema.Encode(form, api.Value{N: attr.PutSet(attr.Set{HowAccess: how})}); e != api.ErrForm {
			t.Errorf("How %d: %v", how, e)
		}
	}
	wide := attr.Set{HasSize: true, Size: math.MaxInt}
	if _, e := schema.Encode(form, api.Value{N: attr.PutSet(wide)}); e != api.OK {
		t.Errorf("the Size is a Hyper: %v", e)
	}
}
