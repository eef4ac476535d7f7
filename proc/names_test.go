package proc_test

import (
	"strings"
	"testing"

	"coracle/api"
	"coracle/attr"
	"coracle/core"
	"coracle/proc"
)

var save = proc.Effect{Kind: proc.Save}

// LOOKUP: the handle, P of the file, P of the directory.
func TestLookup(t *testing.T) {
	f := tree(t)
	for _, x := range []struct {
		d  int
		s  string
		id int
	}{{root, "d", d}, {root, "l", link}, {d, "f", file}, {d, ".", d}, {d, "..", root}, {root, "..", root}} {
		want := value(join([]int{0}, p(f, x.id), p(f, x.d)), h(x.id))
		does(t, f, joe, 3, value(nil, h(x.d), x.s), want, proc.Effect{})
	}
	for _, x := range []struct {
		c core.Caller
		d int
		s string
		e api.Status
	}{
		{super, file, "x", api.NotDir}, {ann, d, "f", api.Acces}, {joe, d, "g", api.NoEnt}, {joe, d, "", api.Inval}, {joe, d, "a/b", api.Inval},
		{joe, d, strings.Repeat("n", 65), api.NameTooLong}, {joe, d, strings.Repeat("n", 255), api.NameTooLong}, {joe, d, strings.Repeat("n", 64), api.NoEnt},
	} {
		fails(t, f, x.c, 3, value(nil, h(x.d), x.s), x.e, p(f, x.d))
	}
}

// LOOKUP of a name that leads nowhere, as only a hand-made Load lays it: P is 0.
func TestLookupNowhere(t *testing.T) {
	f := tree(t)
	n, _ := f.Node(root)
	n.Names.Add("w", 99)
	f.Load(n)
	does(t, f, joe, 3, value(nil, h(root), "w"), value(join([]int{0, 0}, p(f, root)), h(99)), proc.Effect{})
}

// CREATE: a new file, all its numbers.
func TestCreateNumbers(t *testing.T) {
	f := tree(t)
	s := set(attr.Set{HasMode: true, Mode: 0604, HasSize: true, Size: 3, HowAccess: 2, Access: attr.Time{S: 1, N: 2}})
	is := []int{1, attr.Reg, 0604, 1, 7, 17, 3, 128, 0, 0, 1, 6, 1, 2, 80, 0, 80, 0}
	was := []int{1, 1, 30, 0, 30, 0}
	then := []int{1, attr.Dir, 0750, 2, 7, 17, 2, 0, 0, 0, 1, d, 20, 0, 80, 0, 80, 0}
	does(t, f, joe, 8, value(join([]int{1}, s), h(d), "n"), value(join([]int{0, 1}, is, was, then), h(6)), save)
}

// CREATE: unchecked, guarded, exclusive.
func TestCreate(t *testing.T) {
	f := tree(t)
	no, short := set(attr.Set{}), set(attr.Set{HasSize: true, Size: 2})
	verf, other := "12345678", "1234567\x00"
	fails(t, f, joe, 8, value(join([]int{1}, no), h(d), "f"), api.Exist, w(f, f, d))
	fails(t, f, joe, 8, value([]int{2}, h(d), "f", verf), api.Exist, w(f, f, d))
	fails(t, f, joe, 8, value(join([]int{0}, no), h(root), "d"), api.Exist, w(f, f, root))
	ahead := f.Clone()
	v := well(t, f, joe, 8, value(join([]int{0}, short), h(d), "f"), save)
	if n, _ := f.Node(file); n.Data != "ab" || !same(v, value(join([]int{0, 1}, p(f, file), w(ahead, f, d)), h(file))) {
		t.Errorf("CREATE of what is there: %q, %v", n.Data, v)
	}
	for range 2 { // the second one finds the file by its verifier
		ahead = f.Clone()
		v = well(t, f, joe, 8, value([]int{2}, h(d), "x", verf), save)
		if !same(v, value(join([]int{0, 1}, p(f, 6), w(ahead, f, d)), h(6))) {
			t.Errorf("CREATE, exclusive: %v", v)
		}
	}
	if n, _ := f.Node(6); n.Verf != verf || n.Mode != 0644 {
		t.Errorf("an exclusive creation: %v", n)
	}
	fails(t, f, joe, 8, value([]int{2}, h(d), "x", other), api.Exist, w(f, f, d))
}

// CREATE: what layer 13 refuses.
func TestCreateRefused(t *testing.T) {
	f := tree(t)
	no, wide := set(attr.Set{}), set(attr.Set{HasSize: true, Size: 8193})
	for _, x := range []struct {
		c core.Caller
		d int
		s string
		n []int
		e api.Status
	}{
		{super, file, "n", no, api.NotDir}, {ann, d, "n", no, api.Acces}, {joe, d, "", no, api.Inval}, {joe, d, "..", no, api.Inval},
		{joe, d, strings.Repeat("n", 65), no, api.NameTooLong}, {joe, d, "n", wide, api.FBig}, {joe, d, "f", wide, api.FBig},
		{joe, d, "n", set(attr.Set{HasSize: true, Size: -1}), api.Inval},
	} {
		fails(t, f, x.c, 8, value(join([]int{0}, x.n), h(x.d), x.s), x.e, w(f, f, x.d))
	}
}

// MKDIR, SYMLINK, MKNOD: 1 and the handle, P of the file, W of the directory.
func TestMake(t *testing.T) {
	s := attr.Set{HasMode: true, Mode: 0711, HasUID: true, UID: 8, HasSize: true, Size: 5, HowModify: 2, Modify: attr.Time{S: 2, N: 3}}
	n := set(s)
	for _, x := range []struct {
		number int
		args   api.Value
		is     []int
	}{
		{9, value(n, h(d), "n"), []int{1, 2, 0711, 2, 8, 0, 0, 0, 0, 0}},
		{10, value(n, h(d), "n", "/to"), []int{1, 5, 0711, 1, 8, 0, 3, 128, 0, 0}},
		{11, value(join([]int{3}, n, []int{70, 71}), h(d), "n"), []int{1, 3, 0711, 1, 8, 0, 0, 0, 70, 71}},
		{11, value(join([]int{4}, n, []int{72, 73}), h(d), "n"), []int{1, 4, 0711, 1, 8, 0, 0, 0, 72, 73}},
		{11, value(join([]int{6}, n), h(d), "n"), []int{1, 6, 0711, 1, 8, 0, 0, 0, 0, 0}},
		{11, value(join([]int{7}, n), h(d), "n"), []int{1, 7, 0711, 1, 8, 0, 0, 0, 0, 0}},
	} {
		f := tree(t)
		links := 2
		if x.number == 9 {
			links = 3
		}
		is := join(x.is, []int{1, 6, 60, 0, 2, 3, 60, 0})
		then := []int{1, attr.Dir, 0750, links, 7, 17, 2, 0, 0, 0, 1, d, 20, 0, 60, 0, 60, 0}
		want := value(join([]int{0, 1}, is, []int{1, 1, 30, 0, 30, 0}, then), h(6))
		does(t, f, super, x.number, x.args, want, save)
		if node, _ := f.Node(6); x.number == 10 && node.Data != "/to" || node.Verf != "" {
			t.Errorf("procedure %d made %v", x.number, node)
		}
	}
}

// MKDIR, SYMLINK, MKNOD: what is refused; BadType ahead of all but the handle.
func TestMakeRefused(t *testing.T) {
	f := tree(t)
	no := set(attr.Set{})
	dev := join([]int{3}, no, []int{1, 1})
	for _, x := range []struct {
		c      core.Caller
		number int
		n      []int
		d      int
		t      []string
		e      api.Status
	}{
		{joe, 9, no, d, []string{"f"}, api.Exist}, {ann, 9, no, d, []string{"n"}, api.Acces}, {joe, 9, no, file, []string{"n"}, api.NotDir},
		{joe, 10, no, d, []string{"f", ""}, api.Exist}, {joe, 10, no, d, []string{"n", ""}, api.Inval}, {joe, 10, no, d, []string{"n", strings.Repeat("t", 257)}, api.Inval},
		{joe, 11, dev, d, []string{"n"}, api.Perm}, {joe, 11, dev, d, []string{"f"}, api.Exist}, {joe, 11, join([]int{7}, no), d, []string{""}, api.Inval},
		{joe, 11, []int{1}, d, []string{"n"}, api.BadType}, {joe, 11, []int{2}, d, []string{"n"}, api.BadType}, {joe, 11, []int{5}, d, []string{"n"}, api.BadType},
		{joe, 11, []int{0}, d, []string{"n"}, api.BadType}, {joe, 11, []int{8}, d, []string{"n"}, api.BadType}, {joe, 11, []int{1<<32 - 1}, d, []string{"n"}, api.BadType},
		{joe, 11, []int{2}, d, []string{"f"}, api.BadType}, {ann, 11, []int{5}, d, []string{""}, api.BadType}, {joe, 11, []int{9}, file, []string{"n"}, api.BadType},
	} {
		fails(t, f, x.c, x.number, value(x.n, append([]string{h(x.d)}, x.t...)...), x.e, w(f, f, x.d))
	}
}

// REMOVE, RMDIR: W of the directory.
func TestRemove(t *testing.T) {
	f := tree(t)
	fails(t, f, joe, 12, value(nil, h(root), "d"), api.IsDir, w(f, f, root))
	fails(t, f, joe, 12, value(nil, h(root), "n"), api.NoEnt, w(f, f, root))
	fails(t, f, ann, 12, value(nil, h(d), "f"), api.Acces, w(f, f, d))
	fails(t, f, joe, 13, value(nil, h(root), "d"), api.NotEmpty, w(f, f, root))
	fails(t, f, joe, 13, value(nil, h(root), "l"), api.NotDir, w(f, f, root))
	ahead := f.Clone()
	v := well(t, f, joe, 12, value(nil, h(d), "f"), save)
	if !same(v, value(join([]int{0}, w(ahead, f, d)))) {
		t.Errorf("REMOVE: %v", v)
	}
	was, then := []int{1, 3, 50, 0, 50, 0}, []int{1, 2, 0777, 2, 0, 0, 2, 0, 0, 0, 1, 1, 10, 0, 80, 0, 80, 0}
	does(t, f, joe, 13, value(nil, h(root), "d"), value(join([]int{0}, was, then)), save)
	if _, there := f.Node(file); there {
		t.Error("the file is still there")
	}
	fails(t, f, joe, 12, value(nil, h(d), "f"), api.Stale, []int{0, 0})
}

// RENAME: W of both directories, also where they are one.
func TestRename(t *testing.T) {
	f := tree(t)
	for _, x := range []struct {
		from int
		s    string
		to   int
		t    string
	}{{d, "f", root, "g"}, {root, "g", root, "h"}, {root, "h", d, "f"}, {d, "f", d, "f"}, {root, "p", root, "l"}} {
		ahead := f.Clone()
		v := well(t, f, joe, 14, value(nil, h(x.from), x.s, h(x.to), x.t), save)
		if want := value(join([]int{0}, w(ahead, f, x.from), w(ahead, f, x.to))); !same(v, want) {
			t.Errorf("RENAME %v: %v, not %v", x, v, want)
		}
		if id, e := f.Lookup(joe, x.to, x.t); e != 0 || id == link {
			t.Errorf("RENAME %v: leads to %d, %d", x, id, e)
		}
	}
}

// RENAME: what is refused.
func TestRenameRefused(t *testing.T) {
	f := tree(t)
	for _, x := range []struct {
		c    core.Caller
		from int
		s    string
		to   int
		t    string
		e    api.Status
	}{
		{joe, file, "a", root, "b", api.NotDir}, {joe, d, "f", file, "b", api.NotDir}, {ann, d, "f", root, "b", api.Acces}, {ann, root, "l", d, "b", api.Acces},
		{joe, d, "", root, "b", api.Inval}, {joe, d, "f", root, "..", api.Inval}, {joe, d, "g", root, "b", api.NoEnt},
		{joe, root, "d", d, "b", api.Inval}, {joe, d, "f", root, "d", api.Exist}, {joe, d, "f", root, strings.Repeat("n", 65), api.NameTooLong},
	} {
		fails(t, f, x.c, 14, value(nil, h(x.from), x.s, h(x.to), x.t), x.e, w(f, f, x.from), w(f, f, x.to))
	}
	fails(t, f, joe, 14, value(nil, h(d), "f", "x", "b"), api.BadHandle, w(f, f, d), []int{0, 0})
	fails(t, f, joe, 14, value(nil, h(none), "f", h(d), "b"), api.Stale, []int{0, 0}, w(f, f, d))
}

// LINK: P of the file, W of the directory.
func TestLink(t *testing.T) {
	f := tree(t)
	is := []int{1, attr.Reg, 0640, 2, 7, 17, 6, 128, 0, 0, 1, file, 30, 0, 31, 0, 80, 0}
	was, then := []int{1, 3, 50, 0, 50, 0}, []int{1, 2, 0777, 3, 0, 0, 4, 0, 0, 0, 1, 1, 10, 0, 80, 0, 80, 0}
	does(t, f, joe, 15, value(nil, h(file), h(root), "g"), value(join([]int{0}, is, was, then)), save)
	for _, x := range []struct {
		c     core.Caller
		id, d int
		s     string
		e     api.Status
	}{
		{joe, d, root, "n", api.IsDir}, {joe, file, root, "g", api.Exist}, {joe, file, link, "n", api.NotDir}, {ann, file, d, "n", api.Acces},
		{joe, file, d, "", api.Inval}, {joe, d, d, "", api.Inval},
	} {
		fails(t, f, x.c, 15, value(nil, h(x.id), h(x.d), x.s), x.e, p(f, x.id), w(f, f, x.d))
	}
	for i := range 98 {
		well(t, f, joe, 15, value(nil, h(file), h(root), "n"+strings.Repeat("n", i%60)+string(rune('a'+i/60))), save)
	}
	fails(t, f, joe, 15, value(nil, h(file), h(root), "last"), api.MLink, p(f, file), w(f, f, root))
}
