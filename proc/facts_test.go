package proc_test

import (
	"math"
	"testing"

	"coracle/core"
	"coracle/proc"
)

// FSSTAT: what Env tells, and how many files more there may be.
func TestFsStat(t *testing.T) {
	f := tree(t)
	for _, id := range f.IDs() {
		want := value(join([]int{0}, p(f, id), []int{700, 300, 300, 1048576, 1048571, 1048571, 0}))
		does(t, f, ann, 18, value(nil, h(id)), want, proc.Effect{})
	}
	f.Remove(joe, d, "f")
	v, _ := proc.Do(f, ann, proc.Env{Boot: 9, Total: math.MaxInt, Free: -1}, 18, value(nil, h(root)))
	if want := value(join([]int{0}, p(f, root), []int{math.MaxInt, -1, -1, 1048576, 1048572, 1048572, 0})); !same(v, want) {
		t.Errorf("FSSTAT: %v", v)
	}
	one := core.New(1)
	want := value(join([]int{0}, p(one, root), []int{700, 300, 300, 1048576, 1048575, 1048575, 0}))
	does(t, one, joe, 18, value(nil, h(root)), want, proc.Effect{})
}

// FSINFO, PATHCONF: the same of each file, whoever asks.
func TestFixed(t *testing.T) {
	f := tree(t)
	for _, id := range f.IDs() {
		for number, n := range map[int][]int{
			19: {512, 512, 1, 512, 512, 1, 512, 8192, 1, 0, 27},
			20: {100, 64, 1, 1, 0, 1},
		} {
			does(t, f, ann, number, value(nil, h(id)), value(join([]int{0}, p(f, id), n)), proc.Effect{})
		}
	}
}
