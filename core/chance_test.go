package core_test

import (
	"maps"
	"math"
	"math/rand"
	"slices"
	"strings"
	"testing"

	"coracle/api"
	"coracle/attr"
	"coracle/core"
)

var people = []api.Who{
	{},
	{},
	{},
	{UID: 7, GID: 7},
	{UID: 8, GID: 9, Groups: []int{3, 7}},
	{UID: 9, GID: 3},
	{UID: -1, GID: -1, Groups: []int{0}},
}

// chooser chooses what is handed in: mostly what may be, now and then what may not.
type chooser struct {
	*rand.Rand
	m   *model
	now int
}

func pick[T any](r *chooser, l ...T) T { return l[r.Intn(len(l))] }

func (r *chooser) seldom() bool { return r.Intn(12) == 0 }

func (r *chooser) caller() core.Caller {
	r.now += r.Intn(3)
	return core.Caller{Who: pick(r, people...), Now: r.now}
}

// id: a number of some kind, or of any; or of none.
func (r *chooser) id(kinds ...int) int {
	if r.seldom() {
		return pick(r, 0, -1, r.m.last, r.m.last+1, r.Intn(r.m.last)+1, math.MinInt, math.MaxInt)
	}
	var l []int
	for _, id := range slices.Sorted(maps.Keys(r.m.files)) {
		if len(kinds) == 0 || r.seldom() || slices.Contains(kinds, r.m.files[id].attr.Kind) {
			l = append(l, id)
		}
	}
	if len(l) == 0 {
		return 1
	}
	return pick(r, l...)
}

func (r *chooser) name() string {
	if r.seldom() {
		return pick(r, "", ".", "..", "/", "a/b", "a\x00", "\xff", strings.Repeat("x", 64), strings.Repeat("x", 65), strings.Repeat("/", 65))
	}
	return pick(r, "a", "b", "c", "d")
}

// spot: mostly one at which something stands.
func (r *chooser) spot() (int, string) {
	d := r.id(attr.Dir)
	if x := r.m.files[d]; x != nil && len(x.names) > 0 && r.Intn(4) > 0 {
		return d, pick(r, x.names...).Name
	}
	return d, r.name()
}

func (r *chooser) size() int {
	if r.seldom() {
		return pick(r, -1, 8191, 8192, 8193, math.MinInt, math.MaxInt)
	}
	return r.Intn(300)
}

func (r *chooser) set() attr.Set {
	s := attr.Set{
		Mode: pick(r, 0777, 0755, 0700, 0070, 0007, 07777, 010644, r.Intn(1<<13), -1, math.MinInt),
		UID:  pick(r, 0, 7, 8, 9), GID: pick(r, 0, 3, 7, 9), Size: r.size(),
		Access: attr.Time{S: r.Intn(9), N: r.Intn(9)}, Modify: attr.Time{S: r.Intn(9), N: r.Intn(9)},
	}
	s.HasMode, s.HasUID, s.HasGID, s.HasSize = r.Intn(3) == 0, r.Intn(5) == 0, r.Intn(5) == 0, r.Intn(3) == 0
	s.HowAccess, s.HowModify = pick(r, 0, 0, 1, 2), pick(r, 0, 0, 1, 2)
	if r.seldom() {
		s.HowAccess = pick(r, -1, 3, math.MaxInt)
	}
	return s
}

func (r *chooser) guard(id int) []attr.Time {
	x := r.m.files[id]
	if x == nil || r.Intn(3) > 0 {
		return nil
	}
	right := x.attr.Change
	return pick(r, []attr.Time{right}, []attr.Time{right, {S: -1}}, []attr.Time{{S: right.S, N: 1}}, []attr.Time{{S: right.S - 1}, right}, []attr.Time{})
}

func (r *chooser) bytes() string {
	if r.seldom() {
		return pick(r, "", strings.Repeat("z", 8192), strings.Repeat("z", 8193))
	}
	return strings.Repeat(pick(r, "x", "yz", "\x00"), r.Intn(90))
}

func equal[T comparable](t *testing.T, what string, got, want T) {
	t.Helper()
	if got != want {
		t.Fatalf("%s: %v, not %v", what, got, want)
	}
}

// two is what a call answers that answers a number and a status.
type two struct {
	is     int
	status api.Status
}

func both(is int, status api.Status) two { return two{is, status} }

// looks: calls that change nothing.
func looks(t *testing.T, r *chooser, f *core.FS, m *model) {
	t.Helper()
	c := r.caller()
	d, s := r.spot()
	equal(t, "Lookup", both(f.Lookup(c, d, s)), both(m.lookup(c, d, s)))
	id, bits := r.id(), r.Intn(70)-3
	equal(t, "Access", both(f.Access(c, id, bits)), both(m.access(c, id, bits)))
	id, offset, n := r.id(attr.Reg), r.size(), r.size()
	data, end, status := f.Read(c, id, offset, n)
	data2, end2, status2 := m.read(c, id, offset, n)
	if data != data2 || end != end2 || status != status2 {
		t.Fatalf("Read(%d, %d, %d): %q %v %d, not %q %v %d", id, offset, n, data, end, status, data2, end2, status2)
	}
	id = r.id(attr.Lnk)
	data, status = f.Readlink(c, id)
	data2, status2 = m.readlink(c, id)
	if data != data2 || status != status2 {
		t.Fatalf("Readlink(%d): %q %d, not %q %d", id, data, status, data2, status2)
	}
	d, cookie, n := r.id(attr.Dir), r.Intn(9)-1, r.Intn(7)-1
	l, end, status := f.Readdir(c, d, cookie, n)
	l2, end2, status2 := m.readdir(c, d, cookie, n)
	if !slices.Equal(l, l2) || end != end2 || status != status2 {
		t.Fatalf("Readdir(%d, %d, %d): %v %v %d, not %v %v %d", d, cookie, n, l, end, status, l2, end2, status2)
	}
}

// change: a call that may change something; its status.
func change(t *testing.T, r *chooser, f *core.FS, m *model) api.Status {
	t.Helper()
	c := r.caller()
	d, s := r.spot()
	var got, want two
	what := pick(r, "Create", "Create", "Make", "Make", "Make", "SetAttr", "Write", "Remove", "Rmdir", "Rename", "Rename", "Link")
	switch what {
	case "Create":
		how, set, verf := pick(r, 0, 0, 1, 2, 2, 3, -1), r.set(), pick(r, "", "v", "w")
		got, want = both(f.Create(c, d, s, how, set, verf)), both(m.create(c, d, s, how, set, verf))
	case "Make":
		kind, set, o := pick(r, 2, 2, 2, 2, 3, 4, 5, 5, 6, 7, 1, 0, 8, -1), r.set(), r.name()
		target := pick(r, "", "a", "/x/y", strings.Repeat("t", 256), strings.Repeat("t", 257))
		got, want = both(f.Make(c, d, o, kind, set, target, 3, -4)), both(m.make(c, d, o, kind, set, target, 3, -4))
	case "SetAttr":
		id, set := r.id(), r.set()
		guard := r.guard(id)
		got, want = both(0, f.SetAttr(c, id, set, guard)), both(0, m.setAttr(c, id, set, guard))
	case "Write":
		id, offset, data := r.id(attr.Reg), r.size(), r.bytes()
		got, want = both(0, f.Write(c, id, offset, data)), both(0, m.write(c, id, offset, data))
	case "Remove":
		got, want = both(0, f.Remove(c, d, s)), both(0, m.remove(c, d, s, false))
	case "Rmdir":
		got, want = both(0, f.Rmdir(c, d, s)), both(0, m.remove(c, d, s, true))
	case "Rename":
		to, o := r.spot()
		got, want = both(0, f.Rename(c, d, s, to, o)), both(0, m.rename(c, d, s, to, o))
	case "Link":
		id, o := r.id(), r.name()
		got, want = both(0, f.Link(c, id, d, o)), both(0, m.link(c, id, d, o))
	}
	equal(t, what, got, want)
	return got.status
}

// P13.1 to P13.9: calls by chance, held against the model step by step.
func TestByChance(t *testing.T) {
	seen := map[api.Status]int{}
	for seed := range int64(12) {
		f, m := core.New(5), newModel(5)
		r := &chooser{rand.New(rand.NewSource(seed)), m, 5}
		for range 1500 {
			seen[change(t, r, f, m)]++
			looks(t, r, f, m)
			same(t, f, m)
			if r.Intn(4) == 0 {
				sameMet(t, f, m)
			}
		}
	}
	for _, status := range []api.Status{0, 1, 2, 13, 17, 20, 21, 22, 27, 63, 66, 70, 10002, 10007} {
		if seen[status] < 20 {
			t.Errorf("status %d came %d times", status, seen[status])
		}
	}
}

// P13.1: clones, and what was loaded from a file system's nodes, go on alike, and on their own.
func TestOthersByChance(t *testing.T) {
	for seed := range int64(20) {
		f, m := core.New(1), newModel(1)
		r := &chooser{rand.New(rand.NewSource(seed)), m, 1}
		for range 200 {
			change(t, r, f, m)
		}
		copied, copiedModel := f.Clone(), m.clone()
		loaded, loadedModel := loadedFrom(f), m.clone()
		loadedModel.met = map[core.Met]int{{ID: 1}: 1} // New's
		for _, x := range []struct {
			f *core.FS
			m *model
		}{{copied, copiedModel}, {loaded, loadedModel}, {f, m}} {
			r.m = x.m
			for range 200 {
				change(t, r, x.f, x.m)
				same(t, x.f, x.m)
			}
		}
		for _, x := range []struct {
			f *core.FS
			m *model
		}{{copied, copiedModel}, {loaded, loadedModel}, {f, m}} {
			same(t, x.f, x.m)
			sameMet(t, x.f, x.m)
			sameMet(t, x.f, x.m)
		}
	}
}

// loadedFrom: a file system into which all nodes of another one are loaded, the greatest numbers first.
func loadedFrom(f *core.FS) *core.FS {
	l := core.New(99)
	ids := f.IDs()
	slices.Reverse(ids)
	for _, id := range ids {
		n, _ := f.Node(id)
		l.Load(n)
	}
	l.Last(f.Last(0))
	return l
}
