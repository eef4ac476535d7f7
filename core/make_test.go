package core_test

import (
	"math"
	"strings"
	"testing"

	"coracle/api"
	"coracle/attr"
	"coracle/core"
)

// whole: a Set that has all.
var whole = attr.Set{
	HasMode: true, HasUID: true, HasGID: true, HasSize: true,
	Mode: 014750, UID: 55, GID: 66, Size: 130,
	HowAccess: 2, HowModify: 2,
	Access: attr.Time{S: 70, N: 71}, Modify: attr.Time{S: 80, N: 81},
}

func refusedCreate(t *testing.T, f *core.FS, c core.Caller, d int, s string, how int, set attr.Set, verf string, want api.Status) {
	t.Helper()
	same := unchanged(t, f)
	if id, status := f.Create(c, d, s, how, set, verf); id != 0 || status != want {
		t.Errorf("Create(%d, %q, %d): %d %d, not %d", d, s, how, id, status, want)
	}
	same()
}

func refusedMake(t *testing.T, f *core.FS, c core.Caller, d int, s string, kind int, target string, want api.Status) {
	t.Helper()
	same := unchanged(t, f)
	if id, status := f.Make(c, d, s, kind, whole, target, 1, 2); id != 0 || status != want {
		t.Errorf("Make(%d, %q, %d, %q): %d %d, not %d", d, s, kind, target, id, status, want)
	}
	same()
}

// P13.5: the spot's statuses, and those of how, in their order.
func TestCreateStatuses(t *testing.T) {
	f := oneOfEach(t)
	f.Met()
	long := strings.Repeat("x", 65)
	refusedCreate(t, f, super, 99, long, 9, sized(-1), "", api.Stale)
	refusedCreate(t, f, ann, 2, long, 9, sized(-1), "", api.NotDir)
	chmod(t, f, 3, 0757)
	refusedCreate(t, f, ann, 3, long, 9, sized(-1), "", api.Acces)
	chmod(t, f, 3, 0767)
	refusedCreate(t, f, ann, 3, long, 9, sized(-1), "", api.Acces)
	refusedCreate(t, f, ann, 1, long, 9, sized(-1), "", api.NameTooLong)
	for _, s := range []string{"", ".", "..", "a/b", "\x00"} {
		refusedCreate(t, f, ann, 1, s, 0, attr.Set{}, "", api.Inval)
	}
	for _, how := range []int{-1, 3, math.MinInt, math.MaxInt} {
		refusedCreate(t, f, super, 1, "new", how, attr.Set{}, "v", api.Inval)
		refusedCreate(t, f, super, 1, "f", how, attr.Set{}, "v", api.Inval)
	}
	for how := range 2 {
		refusedCreate(t, f, super, 1, "new", how, sized(-1), "v", api.Inval)
		refusedCreate(t, f, super, 1, "new", how, sized(8193), "v", api.FBig)
	}
	if _, status := f.Create(super, 1, "new", 2, sized(-1), "v"); status != 0 {
		t.Errorf("a Size counts of an exclusive one: %d", status)
	}
	for kind := attr.Dir; kind <= attr.Fifo; kind++ {
		for how := range 3 {
			refusedCreate(t, f, super, 1, "k"+string(rune('0'+kind)), how, sized(-1), "", api.Exist)
		}
	}
}

// P13.5: what a new file is, by how and by who makes it.
func TestCreateNew(t *testing.T) {
	zeros := string(make([]byte, 130))
	for i, c := range []struct {
		who  core.Caller
		how  int
		set  attr.Set
		verf string
		want core.Node
	}{
		{joe, 0, attr.Set{}, "v", core.Node{Attr: attr.Attr{Mode: 0644, UID: 7, GID: 17, Access: at(8), Modify: at(8), Change: at(8)}}},
		{joe, 1, attr.Set{}, "v", core.Node{Attr: attr.Attr{Mode: 0644, UID: 7, GID: 17, Access: at(8), Modify: at(8), Change: at(8)}}},
		{joe, 2, whole, "v", core.Node{Attr: attr.Attr{Mode: 0644, UID: 7, GID: 17, Access: at(8), Modify: at(8), Change: at(8)}, Verf: "v"}},
		{joe, 2, whole, "", core.Node{Attr: attr.Attr{Mode: 0644, UID: 7, GID: 17, Access: at(8), Modify: at(8), Change: at(8)}}},
		{joe, 0, whole, "v", core.Node{Attr: attr.Attr{Mode: 04750, UID: 7, GID: 17, Size: 130, Used: 256, Access: whole.Access, Modify: whole.Modify, Change: at(8)}, Data: zeros}},
		{super, 1, whole, "v", core.Node{Attr: attr.Attr{Mode: 04750, UID: 55, GID: 66, Size: 130, Used: 256, Access: whole.Access, Modify: whole.Modify, Change: at(6)}, Data: zeros}},
		{super, 1, owned(55), "", core.Node{Attr: attr.Attr{Mode: 0644, UID: 55, Access: at(6), Modify: at(6), Change: at(6)}}},
		{super, 0, hows(1, 3), "", core.Node{Attr: attr.Attr{Mode: 0644, Access: at(6), Modify: at(6), Change: at(6)}}},
		{ann, 0, sized(8192), "", core.Node{Attr: attr.Attr{Mode: 0644, UID: 9, GID: 19, Size: 8192, Used: 8192, Access: at(10), Modify: at(10), Change: at(10)}, Data: string(make([]byte, 8192))}},
	} {
		f := core.New(5)
		f.Met()
		id, status := f.Create(c.who, 1, "f", c.how, c.set, c.verf)
		if id != 2 || status != 0 {
			t.Fatalf("file %d: %d %d", i, id, status)
		}
		c.want.Kind, c.want.Links, c.want.Fsid, c.want.ID = attr.Reg, 1, 1, 2
		if n := node(t, f, id); !alike(n, c.want) {
			t.Errorf("file %d: %v, not %v", i, n, c.want)
		}
		now := at(c.who.Now)
		if r := node(t, f, 1); r.Size != 1 || r.Links != 2 || r.Modify != now || r.Change != now || r.Access != at(5) {
			t.Errorf("file %d: the root %v", i, r.Attr)
		}
		isMet(t, f, core.Met{ID: 1}, core.Met{ID: 1, Name: "f"}, core.Met{ID: 2})
	}
}

// P13.5: Create of a regular file that is there.
func TestCreateAgain(t *testing.T) {
	f := core.New(5)
	n := made(t)(f.Create(joe, 1, "f", 2, attr.Set{}, "verf"))
	plain := create(t, f, joe, 1, "plain")
	write(t, f, n, "abc")
	f.Met()
	again := func(c core.Caller, s string, how int, set attr.Set, verf string, want int) {
		t.Helper()
		same := unchanged(t, f)
		if id, status := f.Create(c, 1, s, how, set, verf); id != want || status != 0 {
			t.Errorf("Create(%q, %d): %d %d", s, how, id, status)
		}
		same()
	}
	again(joe, "f", 2, attr.Set{}, "verf", n)
	again(ann, "f", 2, whole, "verf", n)
	again(joe, "f", 0, attr.Set{}, "", n)
	again(ann, "f", 0, attr.Set{HasMode: true, Mode: 7, HasUID: true, UID: 9, HasGID: true, HowAccess: 2, HowModify: 1, Size: 1}, "verf", n) // the Size alone counts
	refusedCreate(t, f, joe, 1, "f", 2, attr.Set{}, "other", api.Exist)
	refusedCreate(t, f, joe, 1, "f", 2, attr.Set{}, "", api.Exist)
	refusedCreate(t, f, joe, 1, "plain", 2, attr.Set{}, "", api.Exist) // an empty Verf is none
	refusedCreate(t, f, joe, 1, "plain", 2, attr.Set{}, "verf", api.Exist)
	refusedCreate(t, f, joe, 1, "f", 1, attr.Set{}, "verf", api.Exist)
	refusedCreate(t, f, joe, 1, "f", 1, sized(-1), "verf", api.Exist)
	refusedCreate(t, f, ann, 1, "f", 0, sized(-1), "", api.Acces)
	refusedCreate(t, f, joe, 1, "f", 0, sized(-1), "", api.Inval)
	refusedCreate(t, f, joe, 1, "f", 0, sized(8193), "", api.FBig)
	if node(t, f, plain).Verf != "" {
		t.Error("a guarded one has a Verf")
	}
	is(t, "Remove", f.Remove(super, 1, "f"), 0)
	if id, status := f.Create(joe, 1, "f", 2, attr.Set{}, "verf"); id == n || status != 0 {
		t.Errorf("a new file by the old name: %d %d", id, status)
	}
}

// P13.5: Create with a Size of a file that is there.
func TestCreateSize(t *testing.T) {
	for _, c := range []struct {
		size   int
		want   string
		modify attr.Time
	}{{0, "", at(10)}, {2, "ab", at(10)}, {3, "abc", at(6)}, {5, "abc\x00\x00", at(10)}} {
		f := core.New(5)
		n := create(t, f, joe, 1, "f")
		write(t, f, n, "abc")
		chmod(t, f, n, 0660)
		root := node(t, f, 1)
		f.Met()
		set := whole
		set.Size = c.size
		if id, status := f.Create(ann, 1, "f", 0, set, "v"); id != n || status != 0 {
			t.Errorf("Create: %d %d", id, status)
		}
		x := node(t, f, n)
		if x.Data != c.want || x.Modify != c.modify || x.Change != at(10) || x.Access != at(8) || x.Mode != 0660 || x.UID != 7 || x.GID != 17 || x.Verf != "" {
			t.Errorf("Size %d: %v", c.size, x)
		}
		if !alike(root, node(t, f, 1)) {
			t.Errorf("the root: %v", node(t, f, 1))
		}
		isMet(t, f, core.Met{ID: n})
	}
}

// P13.5: Make's statuses in their order.
func TestMakeStatuses(t *testing.T) {
	f := oneOfEach(t)
	f.Met()
	refusedMake(t, f, super, 99, "", 99, "", api.Stale)
	refusedMake(t, f, super, 2, "", 99, "", api.NotDir)
	refusedMake(t, f, ann, 3, "", 99, "", api.Acces)
	for _, kind := range []int{attr.Reg, attr.Dir, attr.Blk, attr.Chr, attr.Lnk, attr.Sock, attr.Fifo, 0, 8, -1, math.MaxInt, math.MinInt} {
		refusedMake(t, f, joe, 1, strings.Repeat("x", 65), kind, "", api.NameTooLong)
		refusedMake(t, f, joe, 1, "..", kind, "", api.Inval)
		for _, s := range []string{"f", "k2", "k5"} {
			refusedMake(t, f, joe, 1, s, kind, "", api.Exist)
		}
		switch kind {
		case attr.Blk, attr.Chr:
			refusedMake(t, f, joe, 1, "new", kind, "x", api.Perm)
			refusedMake(t, f, core.Caller{Who: api.Who{UID: 1}}, 1, "new", kind, "x", api.Perm)
		case attr.Lnk:
			refusedMake(t, f, joe, 1, "new", kind, "", api.Inval)
			refusedMake(t, f, super, 1, "new", kind, strings.Repeat("x", 257), api.Inval)
		case attr.Dir, attr.Sock, attr.Fifo:
		default:
			refusedMake(t, f, super, 1, "new", kind, "x", api.BadType)
		}
	}
}

// P13.5: what a new node of each kind is.
func TestMakeNew(t *testing.T) {
	long := strings.Repeat("/", 256)
	for _, c := range []struct {
		kind   int
		target string
		want   core.Node
	}{
		{attr.Dir, "x", core.Node{Attr: attr.Attr{Mode: 0755, Links: 2}, Parent: 1}},
		{attr.Lnk, "x", core.Node{Attr: attr.Attr{Mode: 0777, Links: 1, Size: 1, Used: 128}, Data: "x"}},
		{attr.Lnk, long, core.Node{Attr: attr.Attr{Mode: 0777, Links: 1, Size: 256, Used: 256}, Data: long}},
		{attr.Lnk, "\x00\xff/", core.Node{Attr: attr.Attr{Mode: 0777, Links: 1, Size: 3, Used: 128}, Data: "\x00\xff/"}},
		{attr.Blk, "x", core.Node{Attr: attr.Attr{Mode: 0644, Links: 1, Major: -3, Minor: 4}}},
		{attr.Chr, "", core.Node{Attr: attr.Attr{Mode: 0644, Links: 1, Major: -3, Minor: 4}}},
		{attr.Sock, "x", core.Node{Attr: attr.Attr{Mode: 0644, Links: 1}}},
		{attr.Fifo, "", core.Node{Attr: attr.Attr{Mode: 0644, Links: 1}}},
	} {
		for _, who := range []core.Caller{super, joe} {
			if who.UID != 0 && (c.kind == attr.Blk || c.kind == attr.Chr) {
				continue
			}
			for _, set := range []attr.Set{{}, whole, sized(-1), sized(9000)} { // a Size doesn't count
				f := core.New(5)
				f.Met()
				id, status := f.Make(who, 1, "new", c.kind, set, c.target, -3, 4)
				if id != 2 || status != 0 {
					t.Fatalf("Make(%d): %d %d", c.kind, id, status)
				}
				want, now := c.want, at(who.Now)
				want.Kind, want.Fsid, want.ID, want.UID, want.GID = c.kind, 1, 2, who.UID, who.GID
				want.Access, want.Modify, want.Change = now, now, now
				if set == whole {
					want.Mode, want.Access, want.Modify = 04750, whole.Access, whole.Modify
				}
				if set == whole && who.UID == 0 {
					want.UID, want.GID = 55, 66
				}
				n := node(t, f, id)
				if c.kind == attr.Dir {
					want.Names = node(t, core.New(5), 1).Names // empty
				}
				if !alike(n, want) {
					t.Errorf("Make(%d): %v, not %v", c.kind, n, want)
				}
				r := node(t, f, 1)
				if r.Size != 1 || r.Modify != now || r.Change != now || r.Access != at(5) || (r.Links == 3) != (c.kind == attr.Dir) {
					t.Errorf("Make(%d): the root %v", c.kind, r.Attr)
				}
				isMet(t, f, core.Met{ID: 1}, core.Met{ID: 1, Name: "new"}, core.Met{ID: 2})
			}
		}
	}
}
