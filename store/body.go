package store

import (
	"slices"

	"coracle/api"
	"coracle/schema"
)

const (
	form     = "*(<0:o80o2000,1:o80>)" // of a record's body
	maxKey   = 80
	maxValue = 2000
	maxBody  = 3728 // bytes of the one record that fills a segment
)

// The numbers by which a body tells what a change does.
const (
	gives = iota
	takes
)

// good: may it be committed?
func good(c api.Change) bool {
	if c.Gone && c.Value != "" {
		return false
	}
	return 1 <= len(c.Key) && len(c.Key) <= maxKey && len(c.Value) <= maxValue
}

// allGood: may they all be committed?
func allGood(changes []api.Change) bool {
	return !slices.ContainsFunc(changes, func(c api.Change) bool { return !good(c) })
}

// bodyOf: the body of a record of these changes, which are good.
func bodyOf(changes []api.Change) (string, api.Errno) {
	v := api.Value{N: []int{len(changes)}}
	for _, c := range changes {
		if c.Gone {
			v.N, v.T = append(v.N, takes), append(v.T, c.Key)
		} else {
			v.N, v.T = append(v.N, gives), append(v.T, c.Key, c.Value)
		}
	}
	body, e := schema.Encode(form, v)
	if e != api.OK || len(body) > maxBody {
		return "", api.ErrLong // good changes are refused for nothing else
	}
	return body, api.OK
}

// changesOf: the changes of a record's body; can they be taken, and are they good?
func changesOf(body string) ([]api.Change, bool) {
	v, e := schema.Decode(form, body)
	if e != api.OK {
		return nil, false
	}
	var changes []api.Change
	texts := v.T
	for _, kind := range v.N[1:] { // behind how many there are
		c := api.Change{Key: texts[0], Gone: kind == takes}
		texts = texts[1:]
		if !c.Gone {
			c.Value, texts = texts[0], texts[1:]
		}
		changes = append(changes, c)
	}
	return changes, allGood(changes)
}

// sizeOf: how many bytes a change takes in a body: three numbers of four bytes or four, and its texts.
func sizeOf(c api.Change) int {
	if c.Gone {
		return 12 + inFours(c.Key)
	}
	return 16 + inFours(c.Key) + inFours(c.Value)
}

// inFours: a text's length, rounded up to a multiple of four.
func inFours(text string) int { return (len(text) + 3) &^ 3 }

// liveBytes: how many bytes live by a change.
func liveBytes(c api.Change) int {
	if c.Gone {
		return 0
	}
	return sizeOf(c)
}
