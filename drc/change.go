package drc

import (
	"coracle/api"
	"coracle/schema"
)

const (
	mark   = 'r' // with which a kept answer's key begins; its place stands behind it
	form   = "qqqo900o900"
	maxAge = 1 << 60 // that is taken from without
)

// kept: the change that keeps an answer; can it be kept? Not, where a text is too long.
func kept(place int, a answer) (api.Change, bool) {
	value, e := schema.Encode(form, api.Value{
		N: []int{a.age, a.client, a.xid},
		T: []string{a.call, a.reply},
	})
	if e != api.OK {
		return api.Change{}, false
	}
	return api.Change{Key: string([]byte{mark, byte(place)}), Value: value}, true
}

// taken: the answer that a change keeps, and its place; does it keep one?
func taken(x api.Change) (int, answer, bool) {
	if x.Gone || len(x.Key) != 2 || x.Key[0] != mark {
		return 0, answer{}, false
	}
	v, e := schema.Decode(form, x.Value)
	if e != api.OK || v.N[0] < 1 || v.N[0] > maxAge {
		return 0, answer{}, false
	}
	return int(x.Key[1]), answer{v.N[0], v.N[1], v.N[2], v.T[0], v.T[1]}, true
}
