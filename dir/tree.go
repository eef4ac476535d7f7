package dir

import (
	"cmp"
	"slices"
)

// So many things a node has, but the top may have fewer. One that isn't a leaf has one node more below it than it has things: four at least, so that a tree has few levels.
const (
	fewest = 3
	most   = 7
)

// tree finds things by their keys and in the order of these. It is a B-tree: all its leaves are equally far from the top.
type tree[K cmp.Ordered, V any] struct {
	top  *node[K, V] // nil of an empty one
	size int
}

type node[K cmp.Ordered, V any] struct {
	things []thing[K, V]
	below  []*node[K, V] // ahead of, between and behind the things; of a leaf none
}

type thing[K cmp.Ordered, V any] struct {
	key   K
	value V
}

// get: what stands at a key.
func (t *tree[K, V]) get(key K) (V, bool) {
	for n := t.top; n != nil; {
		i, here := n.seek(key)
		if here {
			return n.things[i].value, true
		}
		if n.leaf() {
			break
		}
		n = n.below[i]
	}
	var none V
	return none, false
}

// put: a thing more, at a key at which none stands.
func (t *tree[K, V]) put(key K, value V) {
	if t.top == nil {
		t.top = &node[K, V]{}
	}
	t.top.put(thing[K, V]{key, value})
	if len(t.top.things) > most {
		t.top = &node[K, V]{below: []*node[K, V]{t.top}}
		t.top.split(0)
	}
	t.size++
}

// remove: takes the thing that stands at a key.
func (t *tree[K, V]) remove(key K) {
	t.top.remove(key)
	if len(t.top.things) == 0 {
		if t.top.leaf() {
			t.top = nil
		} else {
			t.top = t.top.below[0]
		}
	}
	t.size--
}

// above: hands out what stands at greater keys, by rising ones, till it isn't wanted any more.
func (t *tree[K, V]) above(key K, want func(V) bool) {
	if t.top != nil {
		t.top.above(key, want)
	}
}

// height: how many nodes stand from the top to a leaf.
func (t *tree[K, V]) height() int {
	if t.top == nil {
		return 0
	}
	height := 1
	for n := t.top; !n.leaf(); n = n.below[0] {
		height++
	}
	return height
}

// clone: a tree of its own with the same nodes.
func (t *tree[K, V]) clone() tree[K, V] {
	if t.top == nil {
		return tree[K, V]{}
	}
	return tree[K, V]{top: t.top.clone(), size: t.size}
}

func (n *node[K, V]) leaf() bool { return len(n.below) == 0 }

// seek: the place of a key among the things, and whether one stands there.
func (n *node[K, V]) seek(key K) (int, bool) {
	return slices.BinarySearchFunc(n.things, key, func(x thing[K, V], key K) int { return cmp.Compare(x.key, key) })
}

// put: may leave the node with a thing too much.
func (n *node[K, V]) put(x thing[K, V]) {
	i, _ := n.seek(x.key)
	if n.leaf() {
		n.things = slices.Insert(n.things, i, x)
		return
	}
	n.below[i].put(x)
	if len(n.below[i].things) > most {
		n.split(i)
	}
}

// split: makes two of a node below, with its middle thing between them.
func (n *node[K, V]) split(i int) {
	left, right := n.below[i], &node[K, V]{}
	middle := len(left.things) / 2
	n.things = slices.Insert(n.things, i, left.things[middle])
	n.below = slices.Insert(n.below, i+1, right)
	right.things = slices.Clone(left.things[middle+1:])
	left.things = slices.Delete(left.things, middle, len(left.things))
	if !left.leaf() {
		right.below = slices.Clone(left.below[middle+1:])
		left.below = slices.Delete(left.below, middle+1, len(left.below))
	}
}

// remove: may leave the node with a thing too few.
func (n *node[K, V]) remove(key K) {
	i, here := n.seek(key)
	switch {
	case n.leaf():
		n.things = slices.Delete(n.things, i, i+1)
	case here:
		n.things[i] = n.below[i].takeLast()
		n.mend(i)
	default:
		n.below[i].remove(key)
		n.mend(i)
	}
}

// takeLast: takes the thing with the greatest key of all; may leave the node with one too few.
func (n *node[K, V]) takeLast() thing[K, V] {
	if n.leaf() {
		last := len(n.things) - 1
		x := n.things[last]
		n.things = slices.Delete(n.things, last, last+1)
		return x
	}
	last := len(n.below) - 1
	x := n.below[last].takeLast()
	n.mend(last)
	return x
}

// mend: joins a node below that has too few things with one beside it; where that makes one with too many, it is split again.
func (n *node[K, V]) mend(i int) {
	if len(n.below[i].things) >= fewest {
		return
	}
	i = min(i, len(n.things)-1)
	left, right := n.below[i], n.below[i+1]
	left.things = append(append(left.things, n.things[i]), right.things...)
	left.below = append(left.below, right.below...)
	n.things = slices.Delete(n.things, i, i+1)
	n.below = slices.Delete(n.below, i+1, i+2)
	if len(left.things) > most {
		n.split(i)
	}
}

// above: whether still more is wanted.
func (n *node[K, V]) above(key K, want func(V) bool) bool {
	i, here := n.seek(key)
	if here {
		i++
	}
	for ; i <= len(n.things); i++ {
		if !n.leaf() && !n.below[i].above(key, want) {
			return false
		}
		if i < len(n.things) && !want(n.things[i].value) {
			return false
		}
	}
	return true
}

func (n *node[K, V]) clone() *node[K, V] {
	c := &node[K, V]{things: slices.Clone(n.things)}
	for _, b := range n.below {
		c.below = append(c.below, b.clone())
	}
	return c
}
