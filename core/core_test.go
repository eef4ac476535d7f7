package core_test

import (
	"math"
	"slices"
	"testing"

	"coracle/api"
	"coracle/attr"
	"coracle/core"
	"coracle/dir"
)

// The callers of these tests, at their moments.
var (
	super = core.Caller{Now: 6}
	joe   = core.Caller{Who: api.Who{UID: 7, GID: 17}, Now: 8}
	ann   = core.Caller{Who: api.Who{UID: 9, GID: 19, Groups: []int{17, 29}}, Now: 10}
)

// is: a call's status.
func is(t *testing.T, what string, got, want api.Status) {
	t.Helper()
	if got != want {
		t.Errorf("%s: %d, not %d", what, got, want)
	}
}

// made: the number of a call that should have made something.
func made(t *testing.T) func(int, api.Status) int {
	return func(id int, status api.Status) int {
		t.Helper()
		if status != 0 {
			t.Fatalf("not made: %d", status)
		}
		return id
	}
}

func create(t *testing.T, f *core.FS, c core.Caller, d int, s string) int {
	t.Helper()
	return made(t)(f.Create(c, d, s, 1, attr.Set{}, ""))
}

func mkdir(t *testing.T, f *core.FS, c core.Caller, d int, s string) int {
	t.Helper()
	return made(t)(f.Make(c, d, s, attr.Dir, attr.Set{}, "", 0, 0))
}

func write(t *testing.T, f *core.FS, id int, data string) {
	t.Helper()
	is(t, "Write", f.Write(super, id, 0, data), 0)
}

func chmod(t *testing.T, f *core.FS, id, mode int) {
	t.Helper()
	is(t, "SetAttr", f.SetAttr(super, id, attr.Set{HasMode: true, Mode: mode}, nil), 0)
}

// node: one that should be there.
func node(t *testing.T, f *core.FS, id int) core.Node {
	t.Helper()
	n, ok := f.Node(id)
	if !ok {
		t.Fatalf("no node %d", id)
	}
	return n
}

// alike: are they nodes with the same in them?
func alike(a, b core.Node) bool {
	return a.Attr == b.Attr && a.Data == b.Data && a.Verf == b.Verf && a.Parent == b.Parent &&
		a.Names.Next() == b.Names.Next() && slices.Equal(a.Names.After(0, math.MaxInt), b.Names.After(0, math.MaxInt))
}

func isMet(t *testing.T, f *core.FS, want ...core.Met) {
	t.Helper()
	if got := f.Met(); !slices.Equal(got, want) {
		t.Errorf("Met: %v, not %v", got, want)
	}
}

// unchanged: what a call that is refused leaves as it was: all nodes, numbers, and what was met.
func unchanged(t *testing.T, f *core.FS) func() {
	t.Helper()
	before := f.Clone()
	return func() {
		t.Helper()
		if !slices.Equal(f.IDs(), before.IDs()) || f.Last(0) != before.Last(0) {
			t.Errorf("numbers %v, %d; not %v, %d", f.IDs(), f.Last(0), before.IDs(), before.Last(0))
		}
		for _, id := range before.IDs() {
			if a, b := node(t, f, id), node(t, before, id); !alike(a, b) {
				t.Errorf("node %d: %v, not %v", id, a.Attr, b.Attr)
			}
		}
		if now, then := f.Clone().Met(), before.Met(); !slices.Equal(now, then) {
			t.Errorf("Met: %v, not %v", now, then)
		}
	}
}

// P13.1: the root alone, and what it is.
func TestNew(t *testing.T) {
	for _, now := range []int{0, 5, -3, math.MaxInt, math.MinInt} {
		f := core.New(now)
		n := node(t, f, 1)
		want := attr.Attr{
			Kind: attr.Dir, Mode: 0777, Links: 2, Fsid: 1, ID: 1,
			Access: attr.Time{S: now}, Modify: attr.Time{S: now}, Change: attr.Time{S: now},
		}
		if n.Attr != want || n.Parent != 1 || n.Data != "" || n.Verf != "" {
			t.Errorf("the root: %v", n)
		}
		if size, _, _ := n.Names.Len(); size != 0 || n.Names.Next() != 3 {
			t.Errorf("the root's names: %d, %d", size, n.Names.Next())
		}
		if !slices.Equal(f.IDs(), []int{1}) || f.Last(0) != 1 {
			t.Errorf("numbers %v, %d", f.IDs(), f.Last(0))
		}
		isMet(t, f, core.Met{ID: 1})
		isMet(t, f)
	}
}

// P13.1: a node's fields, of each kind.
func TestNode(t *testing.T) {
	f := core.New(5)
	d := mkdir(t, f, super, 1, "d")
	n := create(t, f, joe, 1, "f")
	if d != 2 || n != 3 {
		t.Fatalf("numbers %d, %d", d, n)
	}
	write(t, f, n, string(make([]byte, 129)))
	want := attr.Attr{
		Kind: attr.Reg, Mode: 0644, Links: 1, UID: 7, GID: 17, Size: 129, Used: 256, Fsid: 1, ID: 3,
		Access: attr.Time{S: 8}, Modify: attr.Time{S: 6}, Change: attr.Time{S: 6},
	}
	if x := node(t, f, n); x.Attr != want || x.Data != string(make([]byte, 129)) || x.Parent != 0 || x.Names != nil {
		t.Errorf("the file: %v", x)
	}
	if x := node(t, f, 1); x.Links != 3 || x.Size != 2 || x.Used != 0 || x.Change != (attr.Time{S: 8}) {
		t.Errorf("the root: %v", x.Attr)
	}
	if x := node(t, f, d); x.Parent != 1 || x.Links != 2 || x.Size != 0 || x.Mode != 0755 {
		t.Errorf("the directory: %v", x)
	}
	for _, id := range []int{0, -1, 4, math.MaxInt, math.MinInt} {
		if x, ok := f.Node(id); ok || !alike(x, core.Node{}) || x.Names != nil {
			t.Errorf("Node(%d): %v %v", id, x, ok)
		}
	}
}

// P13.1: the example: a directory in the root, a file in that.
func TestExample(t *testing.T) {
	f := core.New(5)
	a := mkdir(t, f, super, 1, "a")
	n := create(t, f, super, a, "f")
	if a != 2 || n != 3 || node(t, f, 1).Links != 3 || node(t, f, a).Size != 1 {
		t.Errorf("%d %d, Links %d, Size %d", a, n, node(t, f, 1).Links, node(t, f, a).Size)
	}
}

// P13.1: what is changed in Node's answer, or in what was handed to Load, isn't changed there.
func TestNodeOnItsOwn(t *testing.T) {
	f := core.New(5)
	create(t, f, super, 1, "f")
	n := node(t, f, 1)
	n.Names.Remove("f")
	n.Names.Add("g", 9)
	n.Mode = 0
	if x := node(t, f, 1); x.Mode != 0777 || !slices.Equal(x.Names.After(0, 9), []dir.Entry{{Name: "f", ID: 2, Cookie: 3}}) {
		t.Errorf("the root: %v", x)
	}
	names := new(dir.Dir)
	names.Add("x", 2)
	f.Load(core.Node{Attr: attr.Attr{Kind: attr.Dir, ID: 4, Mode: 0777}, Parent: 1, Names: names})
	names.Add("y", 2)
	if size, _, _ := node(t, f, 4).Names.Len(); size != 1 {
		t.Errorf("%d names", size)
	}
	create(t, f, super, 4, "z")
	if size, _, _ := names.Len(); size != 2 {
		t.Errorf("what was handed in has %d names", size)
	}
}

// P13.1: a clone is alike, what was met too, and each changes on its own.
func TestClone(t *testing.T) {
	f := core.New(5)
	n := create(t, f, super, 1, "f")
	f.Met()
	write(t, f, n, "abc")
	f.Last(40)
	c := f.Clone()
	if !alike(node(t, c, 1), node(t, f, 1)) || !alike(node(t, c, n), node(t, f, n)) || c.Last(0) != 40 {
		t.Error("the clone isn't alike")
	}
	write(t, c, n, "xyz")
	is(t, "Remove", f.Remove(super, 1, "f"), 0)
	f.Last(50)
	if node(t, c, n).Data != "xyz" || node(t, c, 1).Size != 1 || c.Last(0) != 40 {
		t.Error("the clone was changed")
	}
	isMet(t, f, core.Met{ID: 1}, core.Met{ID: 1, Name: "f"}, core.Met{ID: n})
	isMet(t, c, core.Met{ID: n})
	is(t, "Rename", c.Rename(super, 1, "f", 1, "g"), 0)
	if !slices.Equal(f.IDs(), []int{1}) || len(f.Met()) != 0 {
		t.Error("the clone's calls change the other one")
	}
}

// P13.1: Load lays a node as it is, in the place of another one, and isn't met.
func TestLoad(t *testing.T) {
	f := core.New(5)
	f.Met()
	names := new(dir.Dir)
	names.Put(dir.Entry{Name: "x", ID: 1, Cookie: 70})
	for i, n := range []core.Node{
		{Attr: attr.Attr{Kind: attr.Reg, ID: 20, Size: 2, Used: 128, Mode: 07777, Links: 3, UID: -1, Fsid: 1}, Data: "ab", Verf: "v"},
		{Attr: attr.Attr{Kind: attr.Dir, ID: 20, Size: 1, Links: 2, Fsid: 1}, Parent: 1, Names: names},
		{Attr: attr.Attr{Kind: attr.Lnk, ID: 8, Size: 4, Used: 128, Links: 1, Fsid: 1}, Data: "/a/b"},
		{Attr: attr.Attr{Kind: attr.Blk, ID: 21, Major: 4, Minor: 5, Change: attr.Time{S: 1, N: 2}}},
		{Attr: attr.Attr{Kind: attr.Dir, ID: 1, Mode: 0700, Links: 2, Fsid: 1}, Parent: 1, Names: new(dir.Dir)},
		{Attr: attr.Attr{Kind: attr.Dir, ID: 22}},
		{Attr: attr.Attr{Kind: 99, ID: -4, Fsid: 7}},
		{},
	} {
		f.Load(n)
		if !alike(node(t, f, n.ID), n) {
			t.Errorf("node %d: %v, not %v", i, node(t, f, n.ID), n)
		}
	}
	if !slices.Equal(f.IDs(), []int{-4, 0, 1, 8, 20, 21, 22}) {
		t.Errorf("IDs: %v", f.IDs())
	}
	isMet(t, f)
	if f.Last(0) != 22 {
		t.Errorf("Last: %d", f.Last(0))
	}
	if id := create(t, f, super, 1, "f"); id != 23 {
		t.Errorf("the next number: %d", id)
	}
	if s, end, status := f.Read(super, 20, 0, 9); s != "" || end || status != api.IsDir {
		t.Errorf("Read of what was loaded last: %q %v %d", s, end, status)
	}
}

// P13.1: directories that were loaded without names, and whose parents go round, end no call otherwise than others.
func TestLoadOdd(t *testing.T) {
	f := core.New(5)
	for id := 2; id < 5; id++ {
		f.Load(core.Node{Attr: attr.Attr{Kind: attr.Dir, ID: id, Mode: 0777, Links: 2}, Parent: (id-1)%3 + 2})
	}
	if l, end, status := f.Readdir(super, 2, 0, 9); len(l) != 2 || !end || status != 0 {
		t.Errorf("Readdir: %v %v %d", l, end, status)
	}
	d := mkdir(t, f, super, 2, "d")
	if d != 5 || node(t, f, 2).Size != 1 || node(t, f, 2).Links != 3 {
		t.Errorf("made %d in %v", d, node(t, f, 2).Attr)
	}
	is(t, "Rename", f.Rename(super, 2, "d", 3, "e"), 0)
	is(t, "Rename", f.Rename(super, 3, "e", d, "e"), api.Inval)
	if id, status := f.Lookup(super, 3, "e"); id != d || status != 0 {
		t.Errorf("Lookup: %d %d", id, status)
	}
}

// P13.1: so do parents that aren't there, and names that lead nowhere.
func TestLoadNowhere(t *testing.T) {
	f := core.New(5)
	names := new(dir.Dir)
	names.Add("x", 99)
	f.Load(core.Node{Attr: attr.Attr{Kind: attr.Dir, ID: 2, Mode: 0777, Links: 2, Size: 1}, Parent: 98, Names: names})
	mkdir(t, f, super, 1, "d")
	create(t, f, super, 1, "f")
	f.Met()
	for i, call := range []func() api.Status{
		func() api.Status { return f.Remove(super, 2, "x") },
		func() api.Status { return f.Rmdir(super, 2, "x") },
		func() api.Status { return f.Rename(super, 2, "x", 1, "x") },
		func() api.Status { return f.Rename(super, 1, "f", 2, "x") },
		func() api.Status { _, status := f.Create(super, 2, "x", 0, attr.Set{}, ""); return status },
		func() api.Status { return f.Link(super, 4, 2, "x") },
	} {
		same := unchanged(t, f)
		if call() == 0 {
			t.Errorf("call %d is answered", i)
		}
		same()
	}
	is(t, "Rename", f.Rename(super, 1, "d", 2, "d"), 0)
}

// P13.1: numbers that count as given.
func TestLast(t *testing.T) {
	f := core.New(5)
	for _, c := range []struct{ least, want int }{{0, 1}, {-5, 1}, {math.MinInt, 1}, {1, 1}, {7, 7}, {3, 7}, {8, 8}} {
		if got := f.Last(c.least); got != c.want {
			t.Errorf("Last(%d): %d, not %d", c.least, got, c.want)
		}
	}
	id := create(t, f, super, 1, "f")
	is(t, "Remove", f.Remove(super, 1, "f"), 0)
	if id != 9 || f.Last(0) != 9 || create(t, f, super, 1, "f") != 10 {
		t.Error("a number that was given once comes again, or one is left out")
	}
	f.Create(super, 1, "f", 1, attr.Set{}, "") // Exist
	f.Make(super, 1, "g", 99, attr.Set{}, "", 0, 0)
	if create(t, f, super, 1, "g") != 11 {
		t.Error("calls that are refused take numbers")
	}
}

// P13.1: behind the greatest int there is no next number; nothing that is there is lost by it.
func TestNoNextNumber(t *testing.T) {
	f := core.New(5)
	if f.Last(math.MaxInt) != math.MaxInt {
		t.Error("Last")
	}
	ok := unchanged(t, f)
	if id, status := f.Create(super, 1, "f", 0, attr.Set{}, ""); id != 0 || status == 0 {
		t.Errorf("Create: %d %d", id, status)
	}
	if id, status := f.Make(super, 1, "f", attr.Dir, attr.Set{}, "", 0, 0); id != 0 || status == 0 {
		t.Errorf("Make: %d %d", id, status)
	}
	ok()
}

// P13.1: all numbers, rising; answers are lists of their own.
func TestIDs(t *testing.T) {
	f := core.New(5)
	var want []int
	for i := range 300 {
		want = append(want, create(t, f, super, 1, "f"+string(rune('a'+i%26))+string(rune('a'+i/26))))
	}
	want = append([]int{1}, want...)
	got := f.IDs()
	if !slices.Equal(got, want) {
		t.Errorf("IDs: %v", got)
	}
	for i := range got[:cap(got)] {
		got[:cap(got)][i] = -1
	}
	if !slices.Equal(f.IDs(), want) {
		t.Error("answers of IDs share memory")
	}
}

// P13.1: what was met: rising numbers, the number first, then its names, each once.
func TestMet(t *testing.T) {
	f := core.New(5)
	f.Met()
	d := mkdir(t, f, super, 1, "d")
	for _, s := range []string{"b", "a", "\x01", "c"} {
		write(t, f, create(t, f, super, d, s), "x")
	}
	is(t, "Remove", f.Remove(super, d, "b"), 0)
	create(t, f, super, d, "b")
	want := []core.Met{{ID: 1}, {ID: 1, Name: "d"}, {ID: 2}, {ID: 2, Name: "\x01"}, {ID: 2, Name: "a"}, {ID: 2, Name: "b"}, {ID: 2, Name: "c"}, {ID: 3}, {ID: 4}, {ID: 5}, {ID: 6}, {ID: 7}}
	got := f.Clone().Met()
	if !slices.Equal(got, want) {
		t.Errorf("Met: %v", got)
	}
	isMet(t, f, want...)
	isMet(t, f)
	write(t, f, 4, "y")
	isMet(t, f, core.Met{ID: 4})
}

// P13.9: what each call that changes something meets.
func TestMetByEach(t *testing.T) {
	f := core.New(5)
	d, e := mkdir(t, f, super, 1, "d"), mkdir(t, f, super, 1, "e") // 2, 3
	n := create(t, f, super, d, "n")                               // 4
	o := create(t, f, super, e, "o")                               // 5
	f.Met()
	for i, c := range []struct {
		call func() api.Status
		want []core.Met
	}{
		{func() api.Status { return f.SetAttr(super, n, attr.Set{}, nil) }, []core.Met{{ID: n}}},
		{func() api.Status { return f.Write(super, n, 0, "x") }, []core.Met{{ID: n}}},
		{func() api.Status { return f.Write(super, n, 0, "") }, nil},
		{func() api.Status { return f.Link(super, n, e, "l") }, []core.Met{{ID: e}, {ID: e, Name: "l"}, {ID: n}}},
		{func() api.Status { return f.Rename(super, d, "n", e, "l") }, nil}, // both lead to one node
		{func() api.Status { return f.Rename(super, d, "n", e, "o") }, []core.Met{{ID: d}, {ID: d, Name: "n"}, {ID: e}, {ID: e, Name: "o"}, {ID: n}, {ID: o}}},
		{func() api.Status { return f.Rename(super, e, "l", e, "m") }, []core.Met{{ID: e}, {ID: e, Name: "l"}, {ID: e, Name: "m"}, {ID: n}}},
		{func() api.Status { return f.Remove(super, e, "m") }, []core.Met{{ID: e}, {ID: e, Name: "m"}, {ID: n}}},
		{func() api.Status { return f.Rename(super, 1, "d", e, "d") }, []core.Met{{ID: 1}, {ID: 1, Name: "d"}, {ID: d}, {ID: e}, {ID: e, Name: "d"}}},
		{func() api.Status { return f.Rmdir(super, e, "d") }, []core.Met{{ID: d}, {ID: e}, {ID: e, Name: "d"}}},
		{func() api.Status { return f.Rmdir(super, e, "d") }, nil}, // NoEnt
	} {
		c.call()
		if got := f.Met(); !slices.Equal(got, c.want) {
			t.Errorf("call %d met %v, not %v", i, got, c.want)
		}
	}
}

// P13.9: of a nil file system.
func TestNil(t *testing.T) {
	var f *core.FS
	if f.Clone() != nil || len(f.IDs()) != 0 || len(f.Met()) != 0 || f.Last(7) != 0 {
		t.Error("Clone, IDs, Met, Last")
	}
	f.Load(core.Node{Attr: attr.Attr{ID: 3}})
	if n, ok := f.Node(1); ok || !alike(n, core.Node{}) {
		t.Error("Node")
	}
	id, status := f.Lookup(super, 1, "..")
	id2, status2 := f.Access(super, 1, 63)
	id3, status3 := f.Create(super, 1, "f", 9, attr.Set{}, "")
	id4, status4 := f.Make(super, 1, "", 99, attr.Set{}, "", 0, 0)
	data, end, status5 := f.Read(super, 1, -1, -1)
	said, status6 := f.Readlink(super, 1)
	l, all, status7 := f.Readdir(super, 1, -1, 9)
	if id+id2+id3+id4 != 0 || data != "" || end || said != "" || len(l) != 0 || all {
		t.Error("something is answered beside Stale")
	}
	for i, status := range []api.Status{
		status, status2, status3, status4, status5, status6, status7,
		f.SetAttr(super, 1, attr.Set{}, nil), f.Write(super, 1, 0, ""), f.Remove(super, 1, ""), f.Rmdir(super, 1, ""),
		f.Rename(super, 1, "", 1, ""), f.Link(super, 1, 1, ""),
	} {
		if status != api.Stale {
			t.Errorf("call %d: %d", i, status)
		}
	}
}
