package proc_test

import (
	"math"
	"slices"
	"strings"
	"testing"

	"coracle/api"
	"coracle/attr"
	"coracle/core"
	"coracle/handle"
	"coracle/proc"
	"coracle/schema"
	"coracle/shape"
)

const nfs = 100003

// The callers of these tests, at their moments.
var (
	super = core.Caller{Now: 60}
	joe   = core.Caller{Who: api.Who{UID: 7, GID: 17}, Now: 80}
	ann   = core.Caller{Who: api.Who{UID: 9, GID: 19}, Now: 90}
)

var env = proc.Env{Boot: 5, Total: 700, Free: 300}

const boot5 = "\x00\x00\x00\x00\x00\x00\x00\x05"

// The numbers of the files of these tests.
const (
	root = iota + 1
	d    // the directory "d", joe's
	file // joe's regular file "f" in it, "abcdef"
	link // the symbolic link "l" in the root, to "/d/f"
	pipe // the pipe "p" in the root
	none // the number that no file has
)

// tree: the file system of these tests.
func tree(t *testing.T) *core.FS {
	t.Helper()
	f := core.New(10)
	mode := func(mode int) attr.Set { return attr.Set{HasMode: true, Mode: mode} }
	at := func(now int) core.Caller { return core.Caller{Who: joe.Who, Now: now} }
	for _, e := range []api.Status{
		status(f.Make(at(20), root, "d", attr.Dir, mode(0750), "", 0, 0)),
		status(f.Create(at(30), d, "f", 1, mode(0640), "")),
		f.Write(at(31), file, 0, "abcdef"),
		status(f.Make(at(40), root, "l", attr.Lnk, attr.Set{}, "/d/f", 0, 0)),
		status(f.Make(at(50), root, "p", attr.Fifo, mode(0600), "", 0, 0)),
	} {
		if e != 0 {
			t.Fatalf("the tree isn't made: %d", e)
		}
	}
	f.Met()
	return f
}

func status(_ int, e api.Status) api.Status { return e }

func h(id int) string { return handle.Put(1, id, id) }

// bad are texts that are no handles of files that may be.
var bad = []string{"", "x", h(1)[:27], h(1) + "\x00", handle.Put(2, 1, 1), handle.Put(1, 1, 2), h(0), h(-1), strings.Repeat("\x00", 28)}

func value(n []int, t ...string) api.Value { return api.Value{N: n, T: t} }

func same(a, b api.Value) bool { return slices.Equal(a.N, b.N) && slices.Equal(a.T, b.T) }

// p: P of a number.
func p(f *core.FS, id int) []int {
	n, there := f.Node(id)
	if !there {
		return []int{0}
	}
	return append([]int{1}, attr.Put(n.Attr)...)
}

// w: W of a number, by the file system as it was ahead and as it is now.
func w(ahead, now *core.FS, id int) []int {
	n, there := ahead.Node(id)
	if !there {
		return append([]int{0}, p(now, id)...)
	}
	return append([]int{1, n.Size, n.Modify.S, n.Modify.N, n.Change.S, n.Change.N}, p(now, id)...)
}

func join(l ...[]int) []int { return slices.Concat(l...) }

// set: the numbers of a Set.
func set(s attr.Set) []int { return attr.PutSet(s) }

// fits: P17.3.
func fits(t *testing.T, number int, v api.Value) {
	t.Helper()
	_, form, _ := shape.Of(nfs, number)
	if _, e := schema.Encode(form, v); e != api.OK {
		t.Errorf("procedure %d: %v isn't of its results' form", number, v)
	}
}

// does: a procedure that should answer this, with this effect.
func does(t *testing.T, f *core.FS, c core.Caller, number int, args, want api.Value, effect proc.Effect) {
	t.Helper()
	v, e := proc.Do(f, c, env, number, args)
	if !same(v, want) || e != effect {
		t.Errorf("procedure %d: %v %v, not %v %v", number, v, e, want, effect)
	}
	fits(t, number, v)
}

// well: what a procedure answers whose status should be 0, with this effect.
func well(t *testing.T, f *core.FS, c core.Caller, number int, args api.Value, effect proc.Effect) api.Value {
	t.Helper()
	v, e := proc.Do(f, c, env, number, args)
	if len(v.N) == 0 || v.N[0] != 0 || e != effect {
		t.Fatalf("procedure %d: %v %v", number, v, e)
	}
	fits(t, number, v)
	return v
}

// fails: a procedure that should answer this status, these numbers behind it, and change nothing.
func fails(t *testing.T, f *core.FS, c core.Caller, number int, args api.Value, e api.Status, behind ...[]int) {
	t.Helper()
	ahead := f.Clone()
	does(t, f, c, number, args, value(append([]int{int(e)}, join(behind...)...)), proc.Effect{})
	alike(t, f, ahead)
}

// alike: are they file systems with the same in them?
func alike(t *testing.T, f, g *core.FS) {
	t.Helper()
	if !slices.Equal(f.IDs(), g.IDs()) || f.Last(0) != g.Last(0) || !slices.Equal(f.Clone().Met(), g.Clone().Met()) {
		t.Errorf("files %v, %d, met %v; not %v, %d, %v", f.IDs(), f.Last(0), f.Clone().Met(), g.IDs(), g.Last(0), g.Clone().Met())
	}
	for _, id := range g.IDs() {
		x, _ := f.Node(id)
		y, _ := g.Node(id)
		if x.Attr != y.Attr || x.Data != y.Data || x.Verf != y.Verf || x.Parent != y.Parent ||
			x.Names.Next() != y.Names.Next() || !slices.Equal(x.Names.After(0, math.MaxInt), y.Names.After(0, math.MaxInt)) {
			t.Errorf("file %d: %v, not %v", id, x, y)
		}
	}
}

// The kinds of an effect are numbered as the chapter says.
func TestKinds(t *testing.T) {
	if proc.None != 0 || proc.Save != 1 || proc.Keep != 2 || proc.Commit != 3 {
		t.Errorf("%d %d %d %d", proc.None, proc.Save, proc.Keep, proc.Commit)
	}
}

// The chapter's example.
func TestExample(t *testing.T) {
	fails(t, core.New(1), super, 1, value(nil, handle.Put(1, 9, 9)), 70)
}

// fitting: arguments of each procedure that are of its form.
func fitting() [22]api.Value {
	no := set(attr.Set{})
	verf := "\x00\x00\x00\x00\x00\x00\x00\x00"
	return [22]api.Value{
		1:  value(nil, h(root)),
		2:  value(join(no, []int{0}), h(root)),
		3:  value(nil, h(root), "d"),
		4:  value([]int{63}, h(root)),
		5:  value(nil, h(link)),
		6:  value([]int{0, 9}, h(file)),
		7:  value([]int{0, 9, 0}, h(file), "x"),
		8:  value(join([]int{1}, no), h(root), "n8"),
		9:  value(no, h(root), "n9"),
		10: value(no, h(root), "n10", "/"),
		11: value(join([]int{6}, no), h(root), "n11"),
		12: value(nil, h(root), "p"),
		13: value(nil, h(root), "d"),
		14: value(nil, h(root), "p", h(root), "q"),
		15: value(nil, h(file), h(root), "n15"),
		16: value([]int{0, 999}, h(root), verf),
		17: value([]int{0, 999, 999}, h(root), verf),
		18: value(nil, h(root)),
		19: value(nil, h(root)),
		20: value(nil, h(root)),
		21: value([]int{0, 0}, h(file)),
	}
}

// handlesOf: where among the texts of its arguments a procedure's handles stand.
func handlesOf(number int) []int {
	return map[int][]int{14: {0, 2}, 15: {0, 1}}[number]
}

// misfits: arguments that are just not of a procedure's form.
func misfits(args api.Value) []api.Value {
	l := []api.Value{
		{N: append(slices.Clone(args.N), 0), T: args.T},
		{N: args.N, T: append(slices.Clone(args.T), "")},
		{N: args.N, T: args.T[:len(args.T)-1]},
		{N: args.N},
		{N: args.N, T: append([]string{strings.Repeat("h", 65)}, args.T[1:]...)},
	}
	if len(args.N) > 0 {
		l = append(l, api.Value{N: args.N[:len(args.N)-1], T: args.T}, api.Value{T: args.T})
	}
	return l
}

// misfitsOf: more such of single procedures, by what the forms say of their numbers and texts.
func misfitsOf() map[int][]api.Value {
	no, long := set(attr.Set{}), strings.Repeat("n", 256)
	big, data := 1<<32, strings.Repeat("d", 513)
	return map[int][]api.Value{
		2:  {value([]int{2, 0, 0, 0, 0, 0, 0}, h(1)), value([]int{0, 0, 0, 0, 3, 0, 0}, h(1)), value(join(no, []int{1, 0, -1}), h(1))},
		3:  {value(nil, h(1), long)},
		4:  {value([]int{-1}, h(1)), value([]int{big}, h(1))},
		6:  {value([]int{0, -1}, h(1)), value([]int{0, big}, h(1))},
		7:  {value([]int{0, 1, -1}, h(1), "x"), value([]int{0, 1, big}, h(1), "x"), value([]int{0, 1, 0}, h(1), data)},
		8:  {value(join([]int{3}, no), h(1), "n"), value([]int{2}, h(1), "n", "seven b"), value([]int{2}, h(1), "n"), value(join([]int{2}, no), h(1), "n", boot5)},
		9:  {value(no, h(1), long)},
		10: {value(no, h(1), "n", strings.Repeat("t", 1025))},
		11: {value([]int{6}, h(1), "n"), value([]int{3, 0, 0, 0, 0, 0, 0, 1}, h(1), "n"), value(join([]int{5}, no), h(1), "n"), value([]int{-1}, h(1), "n")},
		16: {value([]int{0, 99}, h(1), "seven b"), value([]int{0, big}, h(1), boot5)},
		17: {value([]int{0, 99, -1}, h(1), boot5)},
		21: {value([]int{0, -1}, h(1))},
	}
}

// isEmpty: Do and Refuse answer an empty value and no effect, and nothing is changed.
func isEmpty(t *testing.T, number int, args api.Value) {
	t.Helper()
	f := tree(t)
	ahead := f.Clone()
	v, e := proc.Do(f, super, env, number, args)
	if len(v.N) > 0 || len(v.T) > 0 || e != (proc.Effect{}) {
		t.Errorf("Do of procedure %d with %v: %v %v", number, args, v, e)
	}
	if v := proc.Refuse(f, number, args, api.NoSpc); len(v.N) > 0 || len(v.T) > 0 {
		t.Errorf("Refuse of procedure %d with %v: %v", number, args, v)
	}
	alike(t, f, ahead)
}

// P17.1, P17.2: no such procedure, NULL, and arguments that aren't of the form.
func TestEmpty(t *testing.T) {
	for _, number := range []int{0, -1, 22, 100003, math.MinInt, math.MaxInt} {
		isEmpty(t, number, api.Value{})
		isEmpty(t, number, value(nil, h(root)))
	}
	more := misfitsOf()
	for number, args := range fitting() {
		if number == 0 {
			continue
		}
		for _, args := range append(misfits(args), more[number]...) {
			isEmpty(t, number, args)
		}
		isEmpty(t, number, api.Value{})
		if v, _ := proc.Do(tree(t), super, env, number, args); len(v.N) == 0 {
			t.Errorf("procedure %d with %v: nothing", number, args)
		}
	}
}

// P17.1: which effect each procedure has that goes well.
func TestEffects(t *testing.T) {
	saves := []int{2, 8, 9, 10, 11, 12, 14, 15}
	for number, args := range fitting() {
		effect := proc.Effect{}
		switch {
		case number == 0 || number == 13:
			continue
		case slices.Contains(saves, number):
			effect.Kind = proc.Save
		case number == 7:
			effect.Kind = proc.Keep
		case number == 21:
			effect = proc.Effect{Kind: proc.Commit, ID: file}
		}
		well(t, tree(t), super, number, args, effect)
	}
}

// behindBad: what stands behind the status, where each handle tells no number, or one of a file that isn't there.
var behindBad = [22]string{2: "W", 3: "P", 4: "P", 5: "P", 6: "P", 7: "W", 8: "W", 9: "W", 10: "W", 11: "W", 12: "W", 13: "W", 14: "WW", 15: "PW", 16: "P", 17: "P", 18: "P", 19: "P", 20: "P", 21: "W"}

// laidOut: P and W of these numbers, as signs tell.
func laidOut(signs string, ahead, now *core.FS, ids ...int) []int {
	var n []int
	for i, sign := range signs {
		if sign == 'P' {
			n = append(n, p(now, ids[i])...)
		} else {
			n = append(n, w(ahead, now, ids[i])...)
		}
	}
	return n
}

// P17.1: handles that tell no number, and those of files that aren't there; these come ahead of all else.
func TestHandles(t *testing.T) {
	f := tree(t)
	type told struct {
		text   string
		status api.Status
	}
	wrong := []told{{h(none), api.Stale}, {h(math.MaxInt), api.Stale}}
	for _, s := range bad {
		wrong = append(wrong, told{s, api.BadHandle})
	}
	for number, args := range fitting() {
		if number == 0 {
			continue
		}
		at := handlesOf(number)
		if at == nil {
			at = []int{0}
		}
		for _, x := range wrong {
			for which, i := range at {
				own := api.Value{N: args.N, T: slices.Clone(args.T)}
				own.T[i] = x.text
				ids := []int{none, none}
				if other := 1 - which; len(at) == 2 {
					ids[other], _ = handle.Number(args.T[at[other]])
				}
				fails(t, f, super, number, own, x.status, laidOut(behindBad[number], f, f, ids...))
				for _, y := range wrong { // of two handles the first one's status first
					if len(at) == 2 {
						own.T[at[0]], own.T[at[1]] = x.text, y.text
						fails(t, f, super, number, own, x.status, laidOut(behindBad[number], f, f, none, none))
					}
				}
			}
		}
	}
}

// P17.1: handles come ahead of what else is wrong, also the second one.
func TestHandlesAhead(t *testing.T) {
	f := tree(t)
	no := set(attr.Set{})
	for _, x := range []struct {
		number int
		args   api.Value
	}{
		{6, value([]int{-1, 9}, h(none))},
		{7, value([]int{-1, 9, 3}, h(none), "x")},
		{8, value(join([]int{1}, no), h(none), "")},
		{11, value([]int{9}, h(none), "n")},
		{16, value([]int{7, 0}, h(none), boot5)},
		{14, value(nil, h(file), "", h(none), "")},
		{14, value(nil, h(root), "absent", h(none), "n")},
		{15, value(nil, h(d), h(none), "")},
	} {
		if v, e := proc.Do(f, super, env, x.number, x.args); v.N[0] != int(api.Stale) || e != (proc.Effect{}) {
			t.Errorf("procedure %d: %v %v", x.number, v, e)
		}
	}
}

// P17.1, P17.2: a file with the number 0, as only a hand-made Load lays it, is no handle's.
func TestNumberNought(t *testing.T) {
	f := tree(t)
	f.Load(core.Node{Attr: attr.Attr{Kind: attr.Reg, ID: 0}})
	fails(t, f, super, 5, value(nil, h(0)), api.BadHandle, []int{0})
	fails(t, f, super, 12, value(nil, "x", "n"), api.BadHandle, []int{0, 0})
}

// P1: a nil file system has no files.
func TestNil(t *testing.T) {
	for number, args := range fitting() {
		if number == 0 {
			continue
		}
		want := value(append([]int{int(api.Stale)}, laidOut(behindBad[number], nil, nil, 1, 1)...))
		does(t, nil, super, number, args, want, proc.Effect{})
		want.N[0] = int(api.NoSpc)
		if v := proc.Refuse(nil, number, args, api.NoSpc); !same(v, want) {
			t.Errorf("Refuse of procedure %d: %v", number, v)
		}
	}
}

// P17.2: what an error answers; what the file is now counts as what it was ahead.
func TestRefuse(t *testing.T) {
	f := tree(t)
	for number, args := range fitting() {
		if number == 0 {
			continue
		}
		ids := []int{1, 1}
		at := handlesOf(number)
		if at == nil {
			at = []int{0}
		}
		for which, i := range at {
			ids[which], _ = handle.Number(args.T[i])
		}
		for _, st := range []api.Status{api.NoSpc, api.IO, api.Stale, api.BadType} {
			want := value(append([]int{int(st)}, laidOut(behindBad[number], f, f, ids...)...))
			v := proc.Refuse(f, number, args, st)
			if !same(v, want) {
				t.Errorf("Refuse of procedure %d, %d: %v, not %v", number, st, v, want)
			}
			fits(t, number, v)
		}
		if v := proc.Refuse(f, number, args, 0); len(v.N) > 0 || len(v.T) > 0 {
			t.Errorf("Refuse of procedure %d with 0: %v", number, v)
		}
		for _, s := range bad {
			own := api.Value{N: args.N, T: slices.Clone(args.T)}
			for _, i := range at {
				own.T[i] = s
			}
			want := value(append([]int{int(api.NoSpc)}, laidOut(behindBad[number], f, f, none, none)...))
			if v := proc.Refuse(f, number, own, api.NoSpc); !same(v, want) {
				t.Errorf("Refuse of procedure %d with a bad handle: %v", number, v)
			}
		}
	}
	alike(t, f, tree(t))
}

// What is handed in stays as it is, the room behind it too; answers are new memory.
func TestOwnMemory(t *testing.T) {
	for number, args := range fitting() {
		if number == 0 {
			continue
		}
		n, texts := append(slices.Clone(args.N), 77, 78), append(slices.Clone(args.T), "u", "v")
		n2, texts2 := slices.Clone(n), slices.Clone(texts)
		f := tree(t)
		v, _ := proc.Do(f, super, env, number, value(n[:len(n)-2], texts[:len(texts)-2]...))
		first := api.Value{N: slices.Clone(v.N), T: slices.Clone(v.T)}
		proc.Refuse(f, number, value(n[:len(n)-2], texts[:len(texts)-2]...), 5)
		if !slices.Equal(n, n2) || !slices.Equal(texts, texts2) {
			t.Errorf("procedure %d changed its arguments: %v %q", number, n, texts)
		}
		again, _ := proc.Do(tree(t), super, env, number, args)
		for i := range again.N {
			again.N[i] = -5
		}
		if !same(v, first) {
			t.Errorf("procedure %d: two answers share memory", number)
		}
	}
}
