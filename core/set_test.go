package core_test

import (
	"math"
	"slices"
	"testing"

	"coracle/api"
	"coracle/attr"
	"coracle/core"
)

// P13.2: of all bits those that may be done, of each kind and sort of callers.
func TestAccess(t *testing.T) {
	f := core.New(5)
	d := mkdir(t, f, joe, 1, "d")
	n := create(t, f, joe, 1, "n")
	l := made(t)(f.Make(joe, 1, "l", attr.Lnk, attr.Set{}, "x", 0, 0))
	for _, c := range []struct {
		who                       core.Caller
		mode                      int
		read, write, pass, unless bool
	}{
		{joe, 0400, true, false, false, false}, {joe, 0200, false, true, false, false}, {joe, 0100, false, false, true, false},
		{joe, 0077, false, false, false, false}, {joe, 0700, true, true, true, false},
		{ann, 0040, true, false, false, false}, {ann, 0020, false, true, false, false}, {ann, 0010, false, false, true, false},
		{ann, 0707, false, false, false, false},
		{core.Caller{Who: api.Who{UID: 1}}, 0004, true, false, false, false}, {core.Caller{Who: api.Who{UID: 1}}, 0770, false, false, false, false},
		{super, 0, true, true, true, false},
	} {
		for _, id := range []int{d, n, l} {
			chmod(t, f, id, c.mode)
			var want int
			if c.read {
				want |= 1
			}
			if c.write {
				want |= 4 | 8
			}
			if c.pass && id != d {
				want |= 32
			}
			if c.write && id == d {
				want |= 16
			}
			if c.pass && id == d {
				want |= 2
			}
			for bits := range 64 {
				if got, status := f.Access(c.who, id, bits); got != want&bits || status != 0 {
					t.Errorf("Access(%v, %d, %d) of %o: %d %d, not %d", c.who, id, bits, c.mode, got, status, want&bits)
				}
			}
			for _, bits := range []int{-1, 0, 64, 1 << 40, math.MaxInt, math.MinInt} {
				if got, status := f.Access(c.who, id, bits); got != want&bits || status != 0 {
					t.Errorf("Access(%v, %d, %d): %d %d", c.who, id, bits, got, status)
				}
			}
		}
	}
	if got, status := f.Access(super, 99, 63); got != 0 || status != api.Stale {
		t.Errorf("Access of none: %d %d", got, status)
	}
}

// trial is a SetAttr of joe's new file, which has a Mode.
type trial struct {
	who   core.Caller
	mode  int
	set   attr.Set
	guard []attr.Time
	want  api.Status
}

func moded(m int) attr.Set { return attr.Set{HasMode: true, Mode: m} }
func owned(u int) attr.Set { return attr.Set{HasUID: true, UID: u} }
func shared(g int) attr.Set {
	return attr.Set{HasGID: true, GID: g}
}
func sized(n int) attr.Set   { return attr.Set{HasSize: true, Size: n} }
func hows(a, m int) attr.Set { return attr.Set{HowAccess: a, HowModify: m} }
func with(s attr.Set, size int) attr.Set {
	s.HasSize, s.Size = true, size
	return s
}

// P13.3: SetAttr's statuses in their order, each with what stands behind it wrong too.
func TestSetAttrStatuses(t *testing.T) {
	right := attr.Time{S: 6} // of the chmod
	all := attr.Set{HasMode: true, HasUID: true, UID: 7, HasGID: true, GID: 17, HasSize: true, Size: -1, HowAccess: 2, HowModify: 1}
	for i, c := range []trial{
		{joe, 0, attr.Set{}, nil, 0},
		{ann, 0, attr.Set{}, nil, 0}, // nothing is set: nobody is asked
		{ann, 0, attr.Set{}, []attr.Time{right}, 0},
		{ann, 0, attr.Set{}, []attr.Time{}, 0},
		{ann, 0, attr.Set{}, []attr.Time{{S: 7}}, api.NotSync},
		{super, 0, attr.Set{}, []attr.Time{{S: 6, N: 1}}, api.NotSync},
		{ann, 0, all, []attr.Time{{}, right}, api.NotSync},
		{ann, 0777, all, []attr.Time{right, {}}, api.Perm},
		{joe, 0, moded(0), nil, 0}, {super, 0, moded(0), nil, 0}, {ann, 0777, moded(0777), nil, api.Perm},
		{super, 0, owned(9), nil, 0}, {joe, 0, owned(7), nil, 0}, {joe, 0777, owned(9), nil, api.Perm},
		{joe, 0777, owned(0), nil, api.Perm}, {ann, 0777, owned(7), nil, api.Perm}, {ann, 0777, owned(9), nil, api.Perm},
		{super, 0, shared(99), nil, 0}, {joe, 0, shared(17), nil, 0}, {joe, 0777, shared(29), nil, api.Perm},
		{ann, 0777, shared(17), nil, api.Perm}, {ann, 0777, shared(19), nil, api.Perm},
		{core.Caller{Who: api.Who{UID: 7, GID: 40, Groups: []int{41, 42}}}, 0, shared(40), nil, 0},
		{core.Caller{Who: api.Who{UID: 7, GID: 40, Groups: []int{41, 42}}}, 0, shared(42), nil, 0},
		{core.Caller{Who: api.Who{UID: 7, GID: 40, Groups: []int{41, 42}}}, 0, shared(17), nil, 0},
		{core.Caller{Who: api.Who{UID: 7, GID: 40, Groups: []int{41, 42}}}, 0, shared(7), nil, api.Perm},
		{joe, 0, sized(8192), nil, 0}, {joe, 0, sized(0), nil, 0}, {joe, 0, sized(-1), nil, api.Inval}, {joe, 0, sized(8193), nil, api.FBig},
		{joe, 0, sized(math.MinInt), nil, api.Inval}, {joe, 0, sized(math.MaxInt), nil, api.FBig},
		{ann, 0020, sized(3), nil, 0}, {ann, 0757, sized(3), nil, api.Acces}, {ann, 0757, sized(-1), nil, api.Acces},
		{ann, 0020, sized(8193), nil, api.FBig}, {ann, 0777, with(moded(0), 3), nil, api.Perm},
		{ann, 0757, with(hows(2, 2), 3), nil, api.Acces}, {ann, 0777, with(hows(2, 2), -1), nil, api.Inval},
		{joe, 0, hows(1, 1), nil, 0}, {joe, 0, hows(2, 2), nil, 0}, {super, 0, hows(2, 1), nil, 0},
		{ann, 0020, hows(1, 1), nil, 0}, {ann, 0757, hows(1, 0), nil, api.Acces}, {ann, 0757, hows(0, 1), nil, api.Acces},
		{ann, 0777, hows(2, 0), nil, api.Perm}, {ann, 0777, hows(0, 2), nil, api.Perm},
		{ann, 0757, hows(1, 2), nil, api.Acces}, {ann, 0757, hows(2, 1), nil, api.Perm}, {ann, 0777, hows(1, 2), nil, api.Perm},
		{ann, 0, hows(3, -1), nil, 0}, {ann, 0, hows(math.MaxInt, math.MinInt), nil, 0},
		{ann, 0, attr.Set{Mode: 1, UID: 2, GID: 3, Size: 4, Access: attr.Time{S: 5}}, nil, 0}, // numbers that it doesn't have
	} {
		f := core.New(5)
		n := create(t, f, joe, 1, "n")
		chmod(t, f, n, c.mode)
		f.Met()
		same := unchanged(t, f)
		got := f.SetAttr(c.who, n, c.set, c.guard)
		if got != c.want {
			t.Errorf("trial %d: %d, not %d", i, got, c.want)
		}
		if got != 0 {
			same()
		} else {
			isMet(t, f, core.Met{ID: n})
		}
	}
}

// P13.3: a Size of what isn't a regular file; and of no file.
func TestSetAttrSizeOfOthers(t *testing.T) {
	f := core.New(5)
	d := mkdir(t, f, joe, 1, "d")
	l := made(t)(f.Make(joe, 1, "l", attr.Lnk, attr.Set{}, "x", 0, 0))
	p := made(t)(f.Make(joe, 1, "p", attr.Fifo, attr.Set{}, "", 0, 0))
	for _, size := range []int{0, 1, -1, 8193} {
		is(t, "a directory", f.SetAttr(joe, d, sized(size), nil), api.IsDir)
		is(t, "a directory", f.SetAttr(super, d, sized(size), nil), api.IsDir)
		is(t, "a link", f.SetAttr(joe, l, sized(size), nil), api.Inval)
		is(t, "a pipe", f.SetAttr(joe, p, sized(size), nil), api.Inval)
		is(t, "a directory", f.SetAttr(ann, d, sized(size), nil), api.Acces)
		is(t, "a pipe", f.SetAttr(ann, p, sized(size), nil), api.Acces)
		is(t, "none", f.SetAttr(super, 99, sized(size), []attr.Time{{S: 3}}), api.Stale)
	}
}

// P13.3: what is set, and which moments.
func TestSetAttr(t *testing.T) {
	f := core.New(5)
	n := create(t, f, joe, 1, "n")
	write(t, f, n, "abcd") // at 6
	told := attr.Time{S: 70, N: 71}
	for i, c := range []struct {
		set    attr.Set
		data   string
		mode   int
		access attr.Time
		modify attr.Time
	}{
		{attr.Set{}, "abcd", 0644, at(8), at(6)},
		{sized(4), "abcd", 0644, at(8), at(6)}, // the same Size
		{sized(2), "ab", 0644, at(8), at(102)},
		{sized(4), "ab\x00\x00", 0644, at(8), at(103)},
		{sized(0), "", 0644, at(8), at(104)},
		{sized(1), "\x00", 0644, at(8), at(105)},
		{moded(017777), "\x00", 07777, at(8), at(105)},
		{moded(-1), "\x00", 07777, at(8), at(105)},
		{moded(1 << 12), "\x00", 0, at(8), at(105)},
		{hows(1, 0), "\x00", 0, at(109), at(105)},
		{hows(0, 1), "\x00", 0, at(109), at(110)},
		{attr.Set{HowAccess: 2, Access: told, Modify: at(1)}, "\x00", 0, told, at(110)},
		{attr.Set{HowModify: 2, Modify: told, Access: at(1)}, "\x00", 0, told, told},
		{attr.Set{HowModify: 3, HowAccess: -1}, "\x00", 0, told, told},
		{attr.Set{HasSize: true, Size: 2, HowModify: 2, Modify: at(-9)}, "\x00\x00", 0, told, at(-9)}, // told, though the Size is another one
		{attr.Set{HasSize: true, Size: 3, HowModify: 1}, "\x00\x00\x00", 0, told, at(115)},
	} {
		who := joe
		who.Now = 100 + i
		is(t, "SetAttr", f.SetAttr(who, n, c.set, nil), 0)
		x := node(t, f, n)
		if x.Data != c.data || x.Size != len(c.data) || x.Mode != c.mode || x.Access != c.access || x.Modify != c.modify || x.Change != at(100+i) {
			t.Errorf("step %d: %v", i, x)
		}
	}
	is(t, "SetAttr", f.SetAttr(super, n, attr.Set{HasUID: true, UID: 55, HasGID: true, GID: -6}, nil), 0)
	if x := node(t, f, n); x.UID != 55 || x.GID != -6 {
		t.Errorf("owner and group: %v", x.Attr)
	}
}

// P13.3: a guard is the moment of the last change, in seconds and billionths.
func TestGuard(t *testing.T) {
	f := core.New(5)
	n := create(t, f, joe, 1, "n")
	before := node(t, f, n).Change
	is(t, "SetAttr", f.SetAttr(super, n, moded(0600), []attr.Time{before}), 0)
	is(t, "SetAttr again", f.SetAttr(super, n, moded(0666), []attr.Time{before}), api.NotSync)
	if node(t, f, n).Mode != 0600 {
		t.Error("set in spite of its guard")
	}
	guard := []attr.Time{{S: 6}, {S: 9}, {S: 10}}
	is(t, "SetAttr", f.SetAttr(super, n, moded(0666), guard[:1]), 0)
	if !slices.Equal(guard, []attr.Time{{S: 6}, {S: 9}, {S: 10}}) {
		t.Error("the guard is changed")
	}
}

// P13.3: Used is the Size, rounded up to a multiple of a piece.
func TestUsed(t *testing.T) {
	f := core.New(5)
	n := create(t, f, joe, 1, "n")
	for _, c := range []struct{ size, used int }{{0, 0}, {1, 128}, {127, 128}, {128, 128}, {129, 256}, {8191, 8192}, {8192, 8192}, {256, 256}} {
		is(t, "SetAttr", f.SetAttr(joe, n, sized(c.size), nil), 0)
		if x := node(t, f, n); x.Size != c.size || x.Used != c.used || len(x.Data) != c.size {
			t.Errorf("Size %d: %v", c.size, x.Attr)
		}
	}
}
