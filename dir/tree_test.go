package dir

import (
	"math/rand"
	"slices"
	"strconv"
	"testing"
)

// sound: the depth of a node's leaves; its things stand in order, its nodes hold as many as they may, and its leaves are equally deep.
func sound(t *testing.T, n *node[int, string], isTop bool) int {
	t.Helper()
	if len(n.things) > most || len(n.things) < fewest && !isTop || len(n.things) == 0 {
		t.Fatalf("a node of %d things", len(n.things))
	}
	for i, x := range n.things {
		if i > 0 && n.things[i-1].key >= x.key {
			t.Fatalf("%d ahead of %d", n.things[i-1].key, x.key)
		}
	}
	if n.leaf() {
		return 1
	}
	if len(n.below) != len(n.things)+1 {
		t.Fatalf("%d nodes below %d things", len(n.below), len(n.things))
	}
	depth := sound(t, n.below[0], false)
	for i, b := range n.below {
		if sound(t, b, false) != depth {
			t.Fatal("leaves of several depths")
		}
		if i > 0 && b.things[0].key <= n.things[i-1].key || i < len(n.things) && b.things[len(b.things)-1].key >= n.things[i].key {
			t.Fatal("a node below at a wrong place")
		}
	}
	return depth + 1
}

// holds: a tree is sound, and has just these keys, each with itself as digits.
func holds(t *testing.T, x *tree[int, string], keys []int) {
	t.Helper()
	depth := 0
	if x.top != nil {
		depth = sound(t, x.top, true)
	}
	if x.size != len(keys) || x.height() != depth {
		t.Fatalf("size %d, height %d, not %d and %d", x.size, x.height(), len(keys), depth)
	}
	var got []string
	x.above(-1, func(s string) bool {
		got = append(got, s)
		return true
	})
	var want []string
	for _, k := range keys {
		want = append(want, strconv.Itoa(k))
	}
	if !slices.Equal(got, want) {
		t.Fatalf("%v, not %v", got, want)
	}
}

// grown: a tree of these keys.
func grown(keys []int) *tree[int, string] {
	x := &tree[int, string]{}
	for _, k := range keys {
		x.put(k, strconv.Itoa(k))
	}
	return x
}

// orders: the numbers below n, rising, falling, from both ends, and by chance.
func orders(r *rand.Rand, n int) [][]int {
	up := make([]int, n)
	for i := range up {
		up[i] = i
	}
	down := slices.Clone(up)
	slices.Reverse(down)
	var ends []int
	for i := range n {
		if i%2 == 0 {
			ends = append(ends, i/2)
		} else {
			ends = append(ends, n-1-i/2)
		}
	}
	return [][]int{up, down, ends, r.Perm(n), r.Perm(n)}
}

// P12.4: a tree is sound behind each put and each remove, whatever their order is, down to an empty one.
func TestTreeOrders(t *testing.T) {
	r := rand.New(rand.NewSource(1241))
	for _, n := range []int{1, 2, 7, 8, 9, 31, 32, 200} {
		for _, in := range orders(r, n) {
			for _, out := range orders(r, n) {
				x, keys := &tree[int, string]{}, []int(nil)
				for _, k := range in {
					x.put(k, strconv.Itoa(k))
					i, _ := slices.BinarySearch(keys, k)
					keys = slices.Insert(keys, i, k)
					holds(t, x, keys)
				}
				for _, k := range out {
					x.remove(k)
					i, _ := slices.BinarySearch(keys, k)
					keys = slices.Delete(keys, i, i+1)
					holds(t, x, keys)
				}
			}
		}
	}
}

// P12.4: a great tree.
func TestTreeGreat(t *testing.T) {
	r := rand.New(rand.NewSource(1242))
	const n = 20000
	for _, in := range orders(r, n) {
		x := grown(in)
		keys := slices.Sorted(slices.Values(in))
		holds(t, x, keys)
		for _, k := range r.Perm(n)[:n-5] {
			x.remove(k)
			keys[k] = -1
		}
		keys = slices.DeleteFunc(keys, func(k int) bool { return k < 0 })
		holds(t, x, keys)
		if x.height() != 1 {
			t.Errorf("height %d of five things", x.height())
		}
	}
}

// P12.3: from each place on, and no further than is wanted.
func TestTreeAbove(t *testing.T) {
	r := rand.New(rand.NewSource(1231))
	for _, n := range []int{0, 1, 7, 8, 60, 300} {
		keys := r.Perm(n)
		for i := range keys {
			keys[i] *= 2
		}
		x := grown(keys)
		for from := -3; from < 2*n+3; from++ {
			for _, few := range []int{1, 2, 9, 1000} {
				var got []string
				x.above(from, func(s string) bool {
					got = append(got, s)
					return len(got) < few
				})
				var want []string
				for k := 0; k < 2*n && len(want) < few; k += 2 {
					if k > from {
						want = append(want, strconv.Itoa(k))
					}
				}
				if !slices.Equal(got, want) {
					t.Fatalf("%d things above %d: %v, not %v", few, from, got, want)
				}
			}
		}
	}
}

// P12.3: a clone has the same nodes, and shares none: whichever of both is written over, the other is as it was.
func TestTreeClone(t *testing.T) {
	r := rand.New(rand.NewSource(1232))
	for _, n := range []int{0, 1, 8, 300} {
		keys := slices.Sorted(slices.Values(r.Perm(n)))
		one, two := grown(keys), grown(keys)
		cloneOne, cloneTwo := one.clone(), two.clone()
		if cloneOne.height() != one.height() {
			t.Errorf("height %d, not %d", cloneOne.height(), one.height())
		}
		overwrite(one.top)
		overwrite(cloneTwo.top)
		holds(t, &cloneOne, keys)
		holds(t, two, keys)
	}
}

// overwrite: all that a node and those below it keep, the room behind their lists too.
func overwrite(n *node[int, string]) {
	if n == nil {
		return
	}
	for _, b := range n.below {
		overwrite(b)
	}
	for i := range n.things[:cap(n.things)] {
		n.things[:cap(n.things)][i] = thing[int, string]{-9, "spoilt"}
	}
	clear(n.below[:cap(n.below)])
}

// What isn't there any more isn't kept either, not even behind the lists' ends.
func TestTreeForgets(t *testing.T) {
	r := rand.New(rand.NewSource(8))
	x := grown(r.Perm(500))
	for _, k := range r.Perm(500)[:400] {
		x.remove(k)
		forgets(t, x.top)
	}
}

func forgets(t *testing.T, n *node[int, string]) {
	t.Helper()
	for _, y := range n.things[len(n.things):cap(n.things)] {
		if y != (thing[int, string]{}) {
			t.Fatalf("%q stands behind the end", y.value)
		}
	}
	for _, b := range n.below[len(n.below):cap(n.below)] {
		if b != nil {
			t.Fatal("a node stands behind the end")
		}
	}
	for _, b := range n.below {
		forgets(t, b)
	}
}
