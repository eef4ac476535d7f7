package core_test

import (
	"math"
	"slices"
	"strconv"
	"strings"
	"testing"

	"coracle/api"
	"coracle/attr"
	"coracle/core"
	"coracle/dir"
)

// refused: a call that changes names, which answers that status and changes nothing.
func refused(t *testing.T, f *core.FS, want api.Status, what string, call func() api.Status) {
	t.Helper()
	same := unchanged(t, f)
	is(t, what, call(), want)
	same()
}

// P13.2: Lookup's answers and statuses in their order.
func TestLookup(t *testing.T) {
	f := oneOfEach(t) // the directory is 3
	n := create(t, f, super, 3, "n")
	inner := mkdir(t, f, super, 3, "inner")
	f.Met()
	for _, c := range []struct {
		who    core.Caller
		d      int
		s      string
		want   int
		status api.Status
	}{
		{joe, 3, "n", n, 0}, {joe, 3, "inner", inner, 0}, {joe, 1, "k2", 3, 0}, {ann, 3, "n", n, 0},
		{joe, 1, ".", 1, 0}, {joe, 1, "..", 1, 0}, {joe, 3, ".", 3, 0}, {joe, 3, "..", 1, 0}, {joe, inner, "..", 3, 0},
		{joe, 3, "m", 0, api.NoEnt}, {joe, 3, "N", 0, api.NoEnt}, {joe, inner, "n", 0, api.NoEnt}, {joe, 3, "...", 0, api.NoEnt},
		{joe, 3, "", 0, api.Inval}, {joe, 3, "n/", 0, api.Inval}, {joe, 3, "n\x00", 0, api.Inval}, {joe, 3, "./", 0, api.Inval},
		{joe, 3, strings.Repeat("x", 64), 0, api.NoEnt}, {joe, 3, strings.Repeat("/", 65), 0, api.NameTooLong},
		{joe, 2, ".", 0, api.NotDir}, {joe, 2, "", 0, api.NotDir}, {joe, attr.Lnk + 1, "..", 0, api.NotDir},
		{super, 99, ".", 0, api.Stale}, {super, 0, "", 0, api.Stale}, {super, -1, "n", 0, api.Stale},
	} {
		if id, status := f.Lookup(c.who, c.d, c.s); id != c.want || status != c.status {
			t.Errorf("Lookup(%d, %q): %d %d", c.d, c.s, id, status)
		}
	}
	for _, mode := range []int{0767, 0717} {
		chmod(t, f, 3, mode)
		for _, s := range []string{".", "..", "n", "", strings.Repeat("x", 65)} {
			id, status := f.Lookup(ann, 3, s)
			if mode&010 == 0 && (id != 0 || status != api.Acces) {
				t.Errorf("Lookup(%q) of one who may not: %d %d", s, id, status)
			}
			if mode&010 != 0 && status == api.Acces {
				t.Errorf("Lookup(%q) needs more than to go through", s)
			}
		}
	}
}

// P13.6: Remove's and Rmdir's statuses in their order.
func TestRemoveStatuses(t *testing.T) {
	f := oneOfEach(t)
	create(t, f, super, 3, "n")
	f.Met()
	for _, c := range []struct {
		who           core.Caller
		d             int
		s             string
		remove, rmdir api.Status
	}{
		{super, 99, "", api.Stale, api.Stale},
		{joe, 2, "", api.NotDir, api.NotDir},
		{ann, 3, strings.Repeat("x", 65), api.Acces, api.Acces},
		{ann, 1, strings.Repeat("x", 65), api.NameTooLong, api.NameTooLong},
		{ann, 1, ".", api.Inval, api.Inval}, {super, 3, "..", api.Inval, api.Inval}, {super, 1, "", api.Inval, api.Inval}, {super, 1, "k2/n", api.Inval, api.Inval},
		{ann, 1, "none", api.NoEnt, api.NoEnt}, {super, 3, "f", api.NoEnt, api.NoEnt},
		{ann, 1, "k2", api.IsDir, api.NotEmpty},
	} {
		refused(t, f, c.remove, "Remove", func() api.Status { return f.Remove(c.who, c.d, c.s) })
		refused(t, f, c.rmdir, "Rmdir", func() api.Status { return f.Rmdir(c.who, c.d, c.s) })
	}
	for _, s := range []string{"f", "k3", "k4", "k5", "k6", "k7"} {
		refused(t, f, api.NotDir, "Rmdir", func() api.Status { return f.Rmdir(super, 1, s) })
		is(t, "Remove", f.Remove(ann, 1, s), 0)
		refused(t, f, api.NoEnt, "Remove", func() api.Status { return f.Remove(super, 1, s) })
	}
	for _, mode := range []int{0757, 0767} {
		chmod(t, f, 3, mode)
		refused(t, f, api.Acces, "Remove", func() api.Status { return f.Remove(ann, 3, "n") })
	}
	chmod(t, f, 3, 0737)
	is(t, "Remove", f.Remove(ann, 3, "n"), 0)
	is(t, "Rmdir", f.Rmdir(ann, 1, "k2"), 0)
	if !slices.Equal(f.IDs(), []int{1}) {
		t.Errorf("IDs: %v", f.IDs())
	}
}

// P13.6: a file is gone with its last name.
func TestRemove(t *testing.T) {
	f := core.New(5)
	n := create(t, f, joe, 1, "n")
	is(t, "Link", f.Link(super, n, 1, "m"), 0)
	f.Met()
	is(t, "Remove", f.Remove(ann, 1, "n"), 0)
	if x := node(t, f, n); x.Links != 1 || x.Change != at(10) || x.Modify != at(8) || x.Access != at(8) {
		t.Errorf("with a name less: %v", x.Attr)
	}
	if x := node(t, f, 1); x.Size != 1 || x.Change != at(10) || x.Modify != at(10) || x.Access != at(5) || x.Links != 2 {
		t.Errorf("the root: %v", x.Attr)
	}
	isMet(t, f, core.Met{ID: 1}, core.Met{ID: 1, Name: "n"}, core.Met{ID: n})
	is(t, "Remove", f.Remove(ann, 1, "m"), 0)
	isMet(t, f, core.Met{ID: 1}, core.Met{ID: 1, Name: "m"}, core.Met{ID: n})
	if _, ok := f.Node(n); ok || !slices.Equal(f.IDs(), []int{1}) {
		t.Error("it isn't gone")
	}
	is(t, "Write", f.Write(super, n, 0, "x"), api.Stale)
	is(t, "Link", f.Link(super, n, 1, "x"), api.Stale)
	if create(t, f, super, 1, "n") != n+1 {
		t.Error("its number is given again")
	}
}

// P13.6: a directory is gone at once, and what leads to it.
func TestRmdir(t *testing.T) {
	f := core.New(5)
	d := mkdir(t, f, super, 1, "d")
	e := mkdir(t, f, super, d, "e")
	if node(t, f, d).Links != 3 || node(t, f, 1).Links != 3 {
		t.Error("Links of directories in it")
	}
	f.Met()
	is(t, "Rmdir", f.Rmdir(super, 1, "d"), api.NotEmpty)
	is(t, "Rmdir", f.Rmdir(super, d, "e"), 0)
	isMet(t, f, core.Met{ID: d}, core.Met{ID: d, Name: "e"}, core.Met{ID: e})
	if x := node(t, f, d); x.Links != 2 || x.Size != 0 {
		t.Errorf("the directory: %v", x.Attr)
	}
	is(t, "Rmdir", f.Rmdir(ann, 1, "d"), 0)
	if x := node(t, f, 1); x.Links != 2 || x.Size != 0 || x.Change != at(10) || x.Modify != at(10) {
		t.Errorf("the root: %v", x.Attr)
	}
	if _, status := f.Lookup(super, e, ".."); status != api.Stale {
		t.Errorf("Lookup in one that is gone: %d", status)
	}
	_, status := f.Create(super, d, "x", 0, attr.Set{}, "")
	is(t, "Create in one that is gone", status, api.Stale)
}

// grove: /d (2) with /d/e (3), /d/e/g (4), a file /d/f (5) and a file /f (6), an empty /h (7).
func grove(t *testing.T) *core.FS {
	t.Helper()
	f := core.New(5)
	d := mkdir(t, f, super, 1, "d")
	e := mkdir(t, f, super, d, "e")
	mkdir(t, f, super, e, "g")
	create(t, f, super, d, "f")
	create(t, f, super, 1, "f")
	mkdir(t, f, super, 1, "h")
	f.Met()
	return f
}

// P13.7: Rename's statuses in their order.
func TestRenameStatuses(t *testing.T) {
	f := grove(t)
	is(t, "Link", f.Link(super, 6, 2, "twin"), 0)
	f.Met()
	long := strings.Repeat("x", 65)
	for i, c := range []struct {
		who  core.Caller
		d    int
		s    string
		to   int
		t    string
		want api.Status
	}{
		{super, 99, "", 98, "", api.Stale}, {super, 6, "", 98, "", api.NotDir}, {joe, 2, "", 98, "", api.Acces}, {super, 2, long, 98, "", api.NameTooLong}, {super, 2, "..", 98, "", api.Inval},
		{super, 2, "none", 98, "", api.Stale}, {super, 2, "none", 6, "", api.NotDir}, {joe, 1, "none", 2, "", api.Acces}, {super, 2, "none", 1, long, api.NameTooLong}, {super, 2, "none", 1, ".", api.Inval},
		{super, 2, "none", 1, "f", api.NoEnt}, {super, 7, "f", 1, "none", api.NoEnt},
		{super, 1, "d", 2, "x", api.Inval}, {super, 1, "d", 3, "x", api.Inval}, {super, 1, "d", 4, "x", api.Inval}, {super, 2, "e", 4, "x", api.Inval}, {super, 1, "d", 2, "f", api.Inval}, {super, 1, "d", 2, "e", api.Inval},
		{super, 1, "d", 1, "d", 0}, {super, 1, "f", 1, "f", 0}, {super, 1, "f", 2, "twin", 0}, {super, 2, "twin", 1, "f", 0},
		{super, 1, "f", 1, "d", api.Exist}, {super, 1, "f", 1, "h", api.Exist}, {super, 1, "d", 1, "f", api.Exist}, {super, 1, "h", 2, "f", api.Exist},
		{super, 1, "h", 1, "d", api.NotEmpty}, {super, 3, "g", 1, "d", api.NotEmpty}, {super, 2, "e", 1, "d", api.NotEmpty}, {super, 1, "h", 2, "e", api.NotEmpty},
	} {
		same := unchanged(t, f)
		if got := f.Rename(c.who, c.d, c.s, c.to, c.t); got != c.want {
			t.Errorf("Rename %d: %d, not %d", i, got, c.want)
		}
		same()
	}
}

// P13.7: a new name in the same directory has a new cookie; the old one's is free for nobody.
func TestRenameInPlace(t *testing.T) {
	f := grove(t)
	is(t, "Rename", f.Rename(joe, 1, "f", 1, "new"), 0)
	isMet(t, f, core.Met{ID: 1}, core.Met{ID: 1, Name: "f"}, core.Met{ID: 1, Name: "new"}, core.Met{ID: 6})
	r := node(t, f, 1)
	want := []dir.Entry{{Name: "d", ID: 2, Cookie: 3}, {Name: "h", ID: 7, Cookie: 5}, {Name: "new", ID: 6, Cookie: 6}}
	if got := r.Names.After(0, 9); !slices.Equal(got, want) || r.Size != 3 || r.Links != 4 || r.Change != at(8) || r.Modify != at(8) {
		t.Errorf("the root: %v %v", got, r.Attr)
	}
	if x := node(t, f, 6); x.Links != 1 || x.Change != at(8) || x.Modify != at(6) || x.Access != at(6) {
		t.Errorf("the file: %v", x.Attr)
	}
}

// P13.7: to another directory, with what a directory's Parent and Links are.
func TestRenameElsewhere(t *testing.T) {
	f := grove(t)
	is(t, "Rename", f.Rename(super, 1, "f", 7, "f"), 0)
	isMet(t, f, core.Met{ID: 1}, core.Met{ID: 1, Name: "f"}, core.Met{ID: 6}, core.Met{ID: 7}, core.Met{ID: 7, Name: "f"})
	if id, status := f.Lookup(super, 7, "f"); id != 6 || status != 0 || node(t, f, 6).Parent != 0 {
		t.Errorf("Lookup: %d %d", id, status)
	}
	f.Rename(super, 7, "f", 1, "f")
	f.Met()
	later := core.Caller{Now: 30}
	is(t, "Rename", f.Rename(later, 2, "e", 7, "x"), 0)
	isMet(t, f, core.Met{ID: 2}, core.Met{ID: 2, Name: "e"}, core.Met{ID: 3}, core.Met{ID: 7}, core.Met{ID: 7, Name: "x"})
	for _, c := range []struct{ id, links, size int }{{1, 4, 3}, {2, 2, 1}, {3, 3, 1}, {7, 3, 1}} {
		if x := node(t, f, c.id); x.Links != c.links || x.Size != c.size || (x.Change == at(30)) != (c.id != 1) || (x.Modify == at(30)) != (c.id == 2 || c.id == 7) {
			t.Errorf("node %d: %v", c.id, x.Attr)
		}
	}
	if node(t, f, 3).Parent != 7 {
		t.Errorf("its Parent: %d", node(t, f, 3).Parent)
	}
	if id, status := f.Lookup(super, 3, ".."); id != 7 || status != 0 {
		t.Errorf("its ..: %d %d", id, status)
	}
	is(t, "Rename", f.Rename(super, 1, "h", 4, "h"), api.Inval) // which is below it now
	is(t, "Rename", f.Rename(super, 1, "d", 4, "d"), 0)
	if id, status := f.Lookup(super, 2, ".."); id != 4 || status != 0 || node(t, f, 1).Links != 3 || node(t, f, 4).Links != 3 {
		t.Errorf("/d at its new place: %d %d", id, status)
	}
}

// P13.7: what stood there loses its name.
func TestRenameOnto(t *testing.T) {
	f := grove(t)
	is(t, "Link", f.Link(super, 5, 1, "twin"), 0)
	f.Met()
	is(t, "Rename", f.Rename(joe, 1, "f", 1, "twin"), 0) // the old one has a name in /d still
	isMet(t, f, core.Met{ID: 1}, core.Met{ID: 1, Name: "f"}, core.Met{ID: 1, Name: "twin"}, core.Met{ID: 5}, core.Met{ID: 6})
	if x := node(t, f, 5); x.Links != 1 || x.Change != at(8) || x.Modify != at(6) {
		t.Errorf("the old one: %v", x.Attr)
	}
	if id, _ := f.Lookup(super, 1, "twin"); id != 6 || node(t, f, 1).Size != 3 {
		t.Errorf("the name leads to %d", id)
	}
	is(t, "Rename", f.Rename(super, 1, "twin", 2, "f"), 0)
	isMet(t, f, core.Met{ID: 1}, core.Met{ID: 1, Name: "twin"}, core.Met{ID: 2}, core.Met{ID: 2, Name: "f"}, core.Met{ID: 5}, core.Met{ID: 6})
	if _, ok := f.Node(5); ok {
		t.Error("the old one isn't gone")
	}
	is(t, "Rename", f.Rename(super, 2, "e", 1, "h"), 0) // onto an empty directory
	isMet(t, f, core.Met{ID: 1}, core.Met{ID: 1, Name: "h"}, core.Met{ID: 2}, core.Met{ID: 2, Name: "e"}, core.Met{ID: 3}, core.Met{ID: 7})
	if _, ok := f.Node(7); ok || node(t, f, 1).Links != 4 || node(t, f, 2).Links != 2 || node(t, f, 1).Size != 2 {
		t.Errorf("the root: %v", node(t, f, 1).Attr)
	}
	is(t, "Rename", f.Rename(super, 3, "g", 2, "g"), 0)
	is(t, "Rename", f.Rename(super, 1, "h", 2, "g"), 0)
	if node(t, f, 1).Links != 3 || node(t, f, 2).Links != 3 || !slices.Equal(f.IDs(), []int{1, 2, 3, 6}) {
		t.Errorf("IDs %v, the root %v, /d %v", f.IDs(), node(t, f, 1).Attr, node(t, f, 2).Attr)
	}
}

// P13.7: Link's statuses in their order.
func TestLinkStatuses(t *testing.T) {
	f := grove(t)
	long := strings.Repeat("x", 65)
	for i, c := range []struct {
		who   core.Caller
		id, d int
		s     string
		want  api.Status
	}{
		{super, 99, 98, "", api.Stale}, {super, 2, 98, "", api.Stale}, {super, 2, 6, "", api.NotDir}, {joe, 2, 2, "", api.Acces}, {super, 2, 1, long, api.NameTooLong}, {super, 2, 1, "", api.Inval},
		{super, 2, 1, "f", api.IsDir}, {super, 2, 1, "new", api.IsDir}, {super, 1, 1, "new", api.IsDir},
		{super, 6, 1, "f", api.Exist}, {super, 6, 1, "d", api.Exist}, {super, 6, 2, "f", api.Exist},
	} {
		same := unchanged(t, f)
		if got := f.Link(c.who, c.id, c.d, c.s); got != c.want {
			t.Errorf("Link %d: %d, not %d", i, got, c.want)
		}
		same()
	}
}

// P13.7: a name more, of each kind but directories, till there are too many.
func TestLink(t *testing.T) {
	for id := 2; id <= 8; id++ {
		f := oneOfEach(t)
		f.Met()
		if id == attr.Dir+1 {
			refused(t, f, api.IsDir, "Link", func() api.Status { return f.Link(super, id, 1, "new") })
			continue
		}
		before := node(t, f, id)
		is(t, "Link", f.Link(ann, id, 1, "new"), 0)
		isMet(t, f, core.Met{ID: 1}, core.Met{ID: 1, Name: "new"}, core.Met{ID: id})
		x, r := node(t, f, id), node(t, f, 1)
		if x.Links != 2 || x.Change != at(10) || x.Modify != before.Modify || x.Access != before.Access {
			t.Errorf("node %d: %v", id, x.Attr)
		}
		if r.Size != 8 || r.Links != 3 || r.Modify != at(10) || r.Change != at(10) {
			t.Errorf("the root: %v", r.Attr)
		}
		for i := 3; i <= 100; i++ {
			is(t, "Link", f.Link(ann, id, 1, "l"+strconv.Itoa(i)), 0)
		}
		refused(t, f, api.MLink, "Link", func() api.Status { return f.Link(super, id, 1, "more") })
		refused(t, f, api.Exist, "Link", func() api.Status { return f.Link(super, id, 1, "l7") })
		is(t, "Remove", f.Remove(ann, 1, "new"), 0)
		is(t, "Link", f.Link(ann, id, 1, "more"), 0)
		if node(t, f, id).Links != 100 {
			t.Errorf("node %d: %v", id, node(t, f, id).Attr)
		}
	}
}

// P13.8: names by their cookies, piece by piece.
func TestReaddir(t *testing.T) {
	f := grove(t)
	is(t, "Remove", f.Remove(super, 2, "e"), api.IsDir)
	create(t, f, super, 2, "last")
	is(t, "Remove", f.Remove(super, 2, "f"), 0) // so cookies are 1, 2, 3, 5 and the next one is 6
	all := []dir.Entry{{Name: ".", ID: 2, Cookie: 1}, {Name: "..", ID: 1, Cookie: 2}, {Name: "e", ID: 3, Cookie: 3}, {Name: "last", ID: 8, Cookie: 5}}
	f.Met()
	same := unchanged(t, f)
	for cookie := range 6 {
		for _, n := range []int{math.MinInt, -1, 0, 1, 2, 3, 4, 5, 99, math.MaxInt} {
			var behind []dir.Entry
			for _, e := range all {
				if e.Cookie > cookie {
					behind = append(behind, e)
				}
			}
			want := behind[:max(0, min(n, len(behind)))]
			l, end, status := f.Readdir(super, 2, cookie, n)
			if !slices.Equal(l, want) || end != (len(want) == len(behind)) || status != 0 {
				t.Errorf("Readdir(%d, %d): %v %v %d, not %v", cookie, n, l, end, status, want)
			}
		}
	}
	same()
	if l, end, status := f.Readdir(super, 1, 0, 1); len(l) != 1 || l[0] != (dir.Entry{Name: ".", ID: 1, Cookie: 1}) || end || status != 0 {
		t.Errorf("Readdir of the root: %v %v %d", l, end, status)
	}
	if l, end, status := f.Readdir(super, 7, 0, 9); !slices.Equal(l, []dir.Entry{{Name: ".", ID: 7, Cookie: 1}, {Name: "..", ID: 1, Cookie: 2}}) || !end || status != 0 {
		t.Errorf("Readdir of an empty one: %v %v %d", l, end, status)
	}
	one, _, _ := f.Readdir(super, 2, 0, 9)
	for i := range one[:cap(one)] {
		one[:cap(one)][i] = dir.Entry{Name: "spoilt"}
	}
	if l, _, _ := f.Readdir(super, 2, 0, 9); !slices.Equal(l, all) {
		t.Error("answers of Readdir share memory")
	}
}

// P13.8: Readdir's statuses in their order.
func TestReaddirStatuses(t *testing.T) {
	f := grove(t)
	chmod(t, f, 2, 0733)
	for i, c := range []struct {
		who       core.Caller
		d, cookie int
		want      api.Status
	}{
		{super, 99, -1, api.Stale}, {super, 6, -1, api.NotDir}, {joe, 2, -1, api.Acces}, {joe, 2, 0, api.Acces},
		{super, 2, -1, api.BadCookie}, {super, 2, 5, api.BadCookie}, {super, 2, 6, api.BadCookie}, {super, 2, math.MaxInt, api.BadCookie}, {super, 2, math.MinInt, api.BadCookie},
		{super, 7, 3, api.BadCookie}, {super, 7, 2, 0}, {super, 2, 4, 0},
	} {
		l, end, status := f.Readdir(c.who, c.d, c.cookie, 9)
		if status != c.want || status != 0 && (len(l) != 0 || end) || status == 0 && (len(l) != 0 || !end) {
			t.Errorf("Readdir %d: %v %v %d, not %d", i, l, end, status, c.want)
		}
	}
	chmod(t, f, 2, 0744)
	if l, end, status := f.Readdir(joe, 2, 0, 9); len(l) != 4 || !end || status != 0 {
		t.Errorf("Readdir of one who may read alone: %v %v %d", l, end, status)
	}
}
