package proc_test

import (
	"math"
	"strings"
	"testing"

	"coracle/api"
	"coracle/attr"
	"coracle/core"
	"coracle/handle"
	"coracle/proc"
)

// fileAttr are the numbers of the Attr of "f" in the tree; the last six are its moments.
var fileAttr = []int{attr.Reg, 0640, 1, 7, 17, 6, 128, 0, 0, 1, file, 30, 0, 31, 0, 31, 0}

// changed: numbers with others at their end.
func changed(n []int, end ...int) []int { return join(n[:len(n)-len(end)], end) }

// GETATTR: the Attr, and nothing ahead of it.
func TestGetAttr(t *testing.T) {
	f := tree(t)
	does(t, f, ann, 1, value(nil, h(file)), value(join([]int{0}, fileAttr)), proc.Effect{})
	does(t, f, ann, 1, value(nil, h(root)), value([]int{0, 2, 0777, 3, 0, 0, 3, 0, 0, 0, 1, 1, 10, 0, 50, 0, 50, 0}), proc.Effect{})
}

// SETATTR: the Set, and the guard, if there is one.
func TestSetAttr(t *testing.T) {
	f := tree(t)
	wide := set(attr.Set{HasMode: true, Mode: 0600, HasSize: true, Size: 200, HowAccess: 2, Access: attr.Time{S: 3, N: 4}, HowModify: 1})
	was := []int{1, 6, 31, 0, 31, 0}
	is := []int{1, attr.Reg, 0600, 1, 7, 17, 200, 256, 0, 0, 1, file, 3, 4, 80, 0, 80, 0}
	for _, guard := range [][]int{{1, 31, 1}, {1, 30, 0}, {1, 0, 0}} {
		fails(t, f, joe, 2, value(join(wide, guard), h(file)), api.NotSync, was, p(f, file))
	}
	fails(t, f, ann, 2, value(join(wide, []int{0}), h(file)), api.Perm, was, p(f, file))
	fails(t, f, ann, 2, value(join(wide, []int{1, 31, 0}), h(file)), api.Perm, was, p(f, file))
	does(t, f, joe, 2, value(join(wide, []int{1, 31, 0}), h(file)), value(join([]int{0}, was, is)), proc.Effect{Kind: proc.Save})
	was = []int{1, 200, 80, 0, 80, 0}
	is = []int{1, attr.Reg, 0600, 1, 8, 18, 200, 256, 0, 0, 1, file, 3, 4, 80, 0, 60, 0}
	give := set(attr.Set{HasUID: true, UID: 8, HasGID: true, GID: 18})
	does(t, f, super, 2, value(join(give, []int{0}), h(file)), value(join([]int{0}, was, is)), proc.Effect{Kind: proc.Save})
}

// ACCESS: what may be done of what is asked.
func TestAccess(t *testing.T) {
	f := tree(t)
	for _, x := range []struct {
		c                 core.Caller
		id, bits, granted int
	}{
		{joe, file, 63, 1 | 4 | 8}, {ann, file, 63, 0}, {super, file, 63, 1 | 4 | 8 | 32}, {super, d, 63, 31},
		{joe, file, 5, 5}, {joe, file, 0, 0}, {joe, d, math.MaxUint32, 31}, {ann, d, 63, 0}, {ann, root, 2, 2},
	} {
		want := value(join([]int{0}, p(f, x.id), []int{x.granted}))
		does(t, f, x.c, 4, value([]int{x.bits}, h(x.id)), want, proc.Effect{})
	}
}

// READLINK: what the link says; Inval of what is none.
func TestReadLink(t *testing.T) {
	f := tree(t)
	does(t, f, ann, 5, value(nil, h(link)), value(join([]int{0}, p(f, link)), "/d/f"), proc.Effect{})
	for _, id := range []int{root, d, file, pipe} {
		fails(t, f, super, 5, value(nil, h(id)), api.Inval, p(f, id))
	}
}

// READ: how many bytes, whether it ends there, the bytes.
func TestRead(t *testing.T) {
	f := tree(t)
	for _, x := range []struct {
		offset, n int
		data      string
		end       int
	}{
		{0, 6, "abcdef", 1}, {0, 5, "abcde", 0}, {0, 7, "abcdef", 1}, {2, 3, "cde", 0}, {2, 4, "cdef", 1}, {0, 0, "", 0},
		{6, 0, "", 1}, {6, 9, "", 1}, {7, 9, "", 1}, {math.MaxInt, math.MaxUint32, "", 1}, {5, math.MaxUint32, "f", 1},
	} {
		want := value(join([]int{0}, p(f, file), []int{len(x.data), x.end}), x.data)
		does(t, f, joe, 6, value([]int{x.offset, x.n}, h(file)), want, proc.Effect{})
	}
	for _, x := range []struct {
		c          core.Caller
		id, offset int
		e          api.Status
	}{{super, d, 0, api.IsDir}, {super, pipe, -1, api.Inval}, {ann, file, -1, api.Acces}, {joe, file, -1, api.Inval}, {joe, file, math.MinInt, api.Inval}} {
		fails(t, f, x.c, 6, value([]int{x.offset, 9}, h(x.id)), x.e, p(f, x.id))
	}
}

// READ: at most MaxData bytes.
func TestReadMost(t *testing.T) {
	f := tree(t)
	data := strings.Repeat("0123456789abcdef", 40) // 640 bytes
	f.Write(joe, file, 0, data)
	for _, x := range []struct{ offset, n, from, to, end int }{
		{0, 511, 0, 511, 0}, {0, 512, 0, 512, 0}, {0, 513, 0, 512, 0}, {0, math.MaxUint32, 0, 512, 0},
		{127, 9999, 127, 639, 0}, {128, 9999, 128, 640, 1}, {129, 9999, 129, 640, 1},
	} {
		want := value(join([]int{0}, p(f, file), []int{x.to - x.from, x.end}), data[x.from:x.to])
		does(t, f, joe, 6, value([]int{x.offset, x.n}, h(file)), want, proc.Effect{})
	}
}

// WRITE: as many bytes as are told, or all; how many, how they last, the verifier; Keep, where it was unstable.
func TestWrite(t *testing.T) {
	for _, x := range []struct {
		offset, n, how int
		data, is       string
		lasts          int
		effect         int
	}{
		{0, 3, 0, "xyz", "xyzdef", 0, proc.Keep},
		{0, 3, 1, "xyz", "xyzdef", 2, proc.Save},
		{0, 3, 2, "xyz", "xyzdef", 2, proc.Save},
		{4, 2, 0, "xyz", "abcdxy", 0, proc.Keep},
		{4, 9, 2, "xyz", "abcdxyz", 2, proc.Save},
		{8, math.MaxUint32, 2, "x", "abcdef\x00\x00x", 2, proc.Save},
		{1, 0, 0, "x", "abcdef", 0, proc.Keep},
		{1, 5, 1, "", "abcdef", 2, proc.Save},
		{0, 512, 0, strings.Repeat("z", 512), strings.Repeat("z", 512), 0, proc.Keep},
	} {
		f := tree(t)
		ahead := f.Clone()
		v := well(t, f, joe, 7, value([]int{x.offset, x.n, x.how}, h(file), x.data), proc.Effect{Kind: x.effect})
		put := min(x.n, len(x.data))
		want := value(join([]int{0}, w(ahead, f, file), []int{put, x.lasts}), boot5)
		if n, _ := f.Node(file); n.Data != x.is || !same(v, want) {
			t.Errorf("WRITE %v: %q, %v, not %v", x, n.Data, v, want)
		}
	}
}

// WRITE: the numbers of W, all of them.
func TestWriteNumbers(t *testing.T) {
	was := []int{1, 6, 31, 0, 31, 0}
	is := []int{1, attr.Reg, 0640, 1, 7, 17, 130, 256, 0, 0, 1, file, 30, 0, 80, 0, 80, 0}
	want := value(join([]int{0}, was, is, []int{1, 0}), boot5)
	does(t, tree(t), joe, 7, value([]int{129, 1, 0}, h(file), "x"), want, proc.Effect{Kind: proc.Keep})
	for _, boot := range []int{0, 1, math.MaxInt, -1} {
		v, _ := proc.Do(tree(t), joe, proc.Env{Boot: boot}, 7, value([]int{0, 1, 0}, h(file), "x"))
		if len(v.T) != 1 || v.T[0] != handle.Verifier(boot) {
			t.Errorf("WRITE of boot %d: %q", boot, v.T)
		}
	}
}

// WRITE: Inval of a third number above 2, ahead of what layer 13 says; no effect of what is refused.
func TestWriteRefused(t *testing.T) {
	f := tree(t)
	for _, x := range []struct {
		c               core.Caller
		id, offset, how int
		e               api.Status
	}{
		{joe, file, 0, 3, api.Inval}, {joe, file, 0, math.MaxUint32, api.Inval}, {super, d, 0, 3, api.Inval}, {ann, file, 0, 3, api.Inval},
		{super, d, 0, 0, api.IsDir}, {super, link, 0, 0, api.Inval}, {ann, file, -1, 0, api.Acces}, {joe, file, -1, 2, api.Inval},
		{joe, file, 8192, 0, api.FBig}, {joe, file, 8192, 2, api.FBig}, {joe, file, math.MaxInt, 1, api.FBig},
	} {
		fails(t, f, x.c, 7, value([]int{x.offset, 1, x.how}, h(x.id), "x"), x.e, w(f, f, x.id))
	}
	// Only what is written counts for how far it goes.
	well(t, f, joe, 7, value([]int{8191, 1, 0}, h(file), "xyz"), proc.Effect{Kind: proc.Keep})
}

// COMMIT: of a regular file, whoever asks, and wherever; IsDir and Inval of others.
func TestCommit(t *testing.T) {
	f := tree(t)
	for _, c := range []core.Caller{super, joe, ann} {
		for _, n := range [][]int{{0, 0}, {-1, math.MaxUint32}, {math.MaxInt, 5}} {
			want := value(join([]int{0}, w(f, f, file)), boot5)
			does(t, f, c, 21, value(n, h(file)), want, proc.Effect{Kind: proc.Commit, ID: file})
		}
	}
	for id, e := range map[int]api.Status{root: api.IsDir, d: api.IsDir, link: api.Inval, pipe: api.Inval} {
		fails(t, f, super, 21, value([]int{0, 0}, h(id)), e, w(f, f, id))
	}
	alike(t, f, tree(t))
}
