package proc_test

import (
	"math"
	"strings"
	"testing"

	"coracle/api"
	"coracle/attr"
	"coracle/core"
	"coracle/dir"
	"coracle/proc"
)

const noughts = "\x00\x00\x00\x00\x00\x00\x00\x00"

// listed: what READDIR answers of a directory with these entries, or, with plus, READDIRPLUS.
func listed(f *core.FS, d int, l []dir.Entry, all int, plus bool) api.Value {
	n, t := join([]int{0}, p(f, d), []int{len(l)}), []string{noughts}
	for _, e := range l {
		n, t = append(n, e.ID, e.Cookie), append(t, e.Name)
		if plus {
			n, t = join(n, p(f, e.ID), []int{1}), append(t, h(e.ID))
		}
	}
	return value(append(n, all), t...)
}

// rootEntries: those of the tree's root.
func rootEntries() []dir.Entry {
	return []dir.Entry{
		{Name: ".", ID: root, Cookie: 1}, {Name: "..", ID: root, Cookie: 2},
		{Name: "d", ID: d, Cookie: 3}, {Name: "l", ID: link, Cookie: 4}, {Name: "p", ID: pipe, Cookie: 5},
	}
}

// READDIR: so many entries as count at most so much together, each 28 here.
func TestReadDir(t *testing.T) {
	f, l := tree(t), rootEntries()
	for cookie := range 6 {
		for count := range 200 {
			fit := min(count/28, 5-cookie)
			args := value([]int{cookie, count}, h(root), noughts)
			if fit == 0 && cookie < 5 {
				fails(t, f, ann, 16, args, api.TooSmall, p(f, root))
				continue
			}
			all := 0
			if cookie+fit == 5 {
				all = 1
			}
			does(t, f, ann, 16, args, listed(f, root, l[cookie:cookie+fit], all, false), proc.Effect{})
		}
	}
	does(t, f, ann, 16, value([]int{0, math.MaxUint32}, h(root), noughts), listed(f, root, l, 1, false), proc.Effect{})
}

// READDIRPLUS: likewise, each 128 more, by its second count alone.
func TestReadDirPlus(t *testing.T) {
	f, l := tree(t), rootEntries()
	for cookie := range 6 {
		for _, count := range []int{0, 27, 28, 155, 156, 157, 311, 312, 467, 468, 623, 624, 779, 780, 781, 1 << 20, math.MaxUint32} {
			for _, first := range []int{0, 1, math.MaxUint32} {
				fit := min(count/156, 5-cookie)
				args := value([]int{cookie, first, count}, h(root), noughts)
				if fit == 0 && cookie < 5 {
					fails(t, f, ann, 17, args, api.TooSmall, p(f, root))
					continue
				}
				all := 0
				if cookie+fit == 5 {
					all = 1
				}
				does(t, f, ann, 17, args, listed(f, root, l[cookie:cookie+fit], all, true), proc.Effect{})
			}
		}
	}
}

// READDIRPLUS: the numbers of one entry, all of them.
func TestReadDirPlusNumbers(t *testing.T) {
	f := tree(t)
	was := []int{1, 2, 0750, 2, 7, 17, 1, 0, 0, 0, 1, d, 20, 0, 30, 0, 30, 0}
	want := value(join([]int{0}, was, []int{1, file, 3, 1}, fileAttr, []int{1, 1}), noughts, "f", h(file))
	does(t, f, joe, 17, value([]int{2, 0, 156}, h(d), noughts), want, proc.Effect{})
}

// An entry's size goes by its name's length, rounded up to a multiple of four.
func TestEntrySizes(t *testing.T) {
	for length := 1; length <= 64; length++ {
		f := core.New(1)
		s := strings.Repeat("n", length)
		f.Create(joe, 1, s, 1, attr.Set{}, "")
		round := 0
		for round < length {
			round += 4
		}
		for number, size := range map[int]int{16: 24 + round, 17: 152 + round} {
			n := make([]int, number-14)
			n[0] = 2
			n[len(n)-1] = size - 1
			fails(t, f, joe, number, value(n, h(1), noughts), api.TooSmall, p(f, 1))
			n[len(n)-1] = size
			want := listed(f, 1, []dir.Entry{{Name: s, ID: 2, Cookie: 3}}, 1, number == 17)
			does(t, f, joe, number, value(n, h(1), noughts), want, proc.Effect{})
		}
	}
}

// Entries that would fit behind one that doesn't aren't told ahead of it.
func TestEntriesInOrder(t *testing.T) {
	f := core.New(1)
	for _, s := range []string{"aaaa", strings.Repeat("b", 64), "c"} {
		f.Create(joe, 1, s, 1, attr.Set{}, "")
	}
	want := listed(f, 1, []dir.Entry{{Name: "aaaa", ID: 2, Cookie: 3}}, 0, false)
	for _, count := range []int{28, 56, 115} {
		does(t, f, joe, 16, value([]int{2, count}, h(1), noughts), want, proc.Effect{})
	}
	want = listed(f, 1, []dir.Entry{{Name: "aaaa", ID: 2, Cookie: 3}, {Name: strings.Repeat("b", 64), ID: 3, Cookie: 4}}, 0, false)
	for _, count := range []int{116, 143} {
		does(t, f, joe, 16, value([]int{2, count}, h(1), noughts), want, proc.Effect{})
	}
}

// All of a great directory in one call; and piece by piece.
func TestManyEntries(t *testing.T) {
	f := core.New(1)
	for i := range 1200 {
		f.Create(joe, 1, "n"+strings.Repeat("x", i%40)+string(rune('a'+i/40)), 1, attr.Set{}, "")
	}
	v := well(t, f, joe, 16, value([]int{0, 1 << 20}, h(1), noughts), proc.Effect{})
	if v.N[18+1] != 1202 || v.N[len(v.N)-1] != 1 || len(v.T) != 1203 {
		t.Errorf("all at once: %d %d %d", v.N[19], v.N[len(v.N)-1], len(v.T))
	}
	seen, cookie := 0, 0
	for range 1300 {
		v := well(t, f, joe, 17, value([]int{cookie, 0, 2000}, h(1), noughts), proc.Effect{})
		seen += v.N[18+1]
		cookie = v.N[len(v.N)-1-19-1] // ahead of the last entry's P and 1
		if v.N[len(v.N)-1] == 1 {
			break
		}
	}
	if seen != 1202 || cookie != 1202 {
		t.Errorf("piece by piece: %d, up to %d", seen, cookie)
	}
}

// BadCookie by the verifier, ahead of what layer 13 says; with the cookie 0 any will do.
func TestListVerifier(t *testing.T) {
	f := tree(t)
	for _, verf := range []string{"\x00\x00\x00\x00\x00\x00\x00\x01", "\x01\x00\x00\x00\x00\x00\x00\x00", boot5, "verifier"} {
		for number, more := range map[int][]int{16: {999}, 17: {0, 999}} {
			for _, id := range []int{root, d, file} {
				for _, cookie := range []int{1, 3, -1, 99, math.MaxInt, math.MinInt} {
					fails(t, f, ann, number, value(join([]int{cookie}, more), h(id), verf), api.BadCookie, p(f, id))
				}
			}
			want := listed(f, root, rootEntries(), 1, number == 17)
			does(t, f, ann, number, value(join([]int{0}, more), h(root), verf), want, proc.Effect{})
		}
	}
}

// What layer 13 refuses; ahead of TooSmall.
func TestReadDirRefused(t *testing.T) {
	f := tree(t)
	for number, more := range map[int][]int{16: {0}, 17: {0, 0}} {
		for _, x := range []struct {
			c          core.Caller
			id, cookie int
			e          api.Status
		}{
			{super, file, 0, api.NotDir}, {ann, d, 0, api.Acces}, {joe, d, -1, api.BadCookie}, {joe, d, 4, api.BadCookie},
			{joe, d, math.MaxInt, api.BadCookie}, {joe, d, math.MinInt, api.BadCookie}, {joe, d, 2, api.TooSmall},
		} {
			fails(t, f, x.c, number, value(join([]int{x.cookie}, more), h(x.id), noughts), x.e, p(f, x.id))
		}
		// Where there is none behind the cookie, no count is too small.
		does(t, f, joe, number, value(join([]int{3}, more), h(d), noughts), listed(f, d, nil, 1, false), proc.Effect{})
	}
}
