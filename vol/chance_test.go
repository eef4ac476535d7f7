package vol_test

import (
	"math/rand"
	"slices"
	"strconv"
	"strings"
	"testing"

	"coracle/api"
	"coracle/attr"
	"coracle/core"
	"coracle/sector"
	"coracle/vol"
)

// model is what should be kept of a Vol, told by the chapter's words.
type model struct {
	kept  pairs // on the disk
	now   state // behind the last Save, Keep or Commit that was OK
	dirty []int // rising
}

// trip is a way by chance through a Vol's calls.
type trip struct {
	*rand.Rand
	t    *testing.T
	d    *sector.Disk
	v    *vol.Vol
	m    model
	seen map[api.Errno]int
}

func pick[T any](r *trip, l ...T) T { return l[r.Intn(len(l))] }

func (r *trip) caller() core.Caller { return core.Caller{Now: r.Intn(1000)} }

// id: a file's number, mostly of such a kind.
func (r *trip) id(kind int) int {
	var l []int
	for _, id := range r.v.FS().IDs() {
		if n, _ := r.v.FS().Node(id); n.Kind == kind {
			l = append(l, id)
		}
	}
	if len(l) == 0 {
		return 1
	}
	return pick(r, l...)
}

func (r *trip) bytes() string {
	n := r.Intn(pick(r, 5, 130, 600, 4000))
	return strings.Repeat(pick(r, "x", "yz", "\x00", "\x00\x00\x00w"), n)[:n]
}

// alters: a call that meets regular files alone.
func (r *trip) alters() {
	id := r.id(attr.Reg)
	if r.Intn(4) == 0 {
		r.v.FS().SetAttr(r.caller(), id, attr.Set{HasSize: true, Size: r.Intn(8193)}, nil)
	} else if id != 1 {
		r.v.FS().Write(r.caller(), id, r.Intn(7000), r.bytes())
	}
}

// moves: a call that meets what it likes.
func (r *trip) moves() {
	f, c := r.v.FS(), r.caller()
	d, to, s, o := r.id(attr.Dir), r.id(attr.Dir), strconv.Itoa(r.Intn(7)), strconv.Itoa(r.Intn(7))
	switch r.Intn(10) {
	case 0, 1:
		f.Create(c, d, s, 0, attr.Set{HasSize: true, Size: r.Intn(3000)}, "")
	case 2:
		f.Create(c, d, s, 2, attr.Set{}, strings.Repeat("v", pick(r, 0, 8, 64, 64, 65)))
	case 3:
		f.Make(c, d, s, attr.Dir, attr.Set{}, "", 0, 0)
	case 4:
		f.Make(c, d, s, attr.Lnk, attr.Set{}, sized(1+r.Intn(256)), 0, 0)
	case 5:
		f.Remove(c, d, s)
	case 6:
		f.Rmdir(c, d, s)
	case 7:
		f.Rename(c, d, s, to, o)
	case 8:
		f.Link(c, r.id(attr.Reg), d, s)
	case 9:
		f.SetAttr(c, pick(r, f.IDs()...), attr.Set{HasMode: true, Mode: r.Intn(0777) | 0700}, nil)
	}
}

// more: changes of the caller's.
func (r *trip) more() []api.Change {
	if r.Intn(3) > 0 {
		return nil
	}
	k := pick(r, "r", "q", "\x00", "zz")
	return pick(r, []api.Change{give(k, sized(r.Intn(300)))}, []api.Change{take(k)}, []api.Change{give(k, sized(r.Intn(2100)))},
		[]api.Change{give("r", sized(r.Intn(1900))), give(k, sized(r.Intn(1900)))}, []api.Change{give("k", "1"), take("k")}, []api.Change{give(pick(r, "s", "", "d", "e1"), "")})
}

// intent is what a Save or Commit should do.
type intent struct {
	kept  pairs
	dirty []int
	e     api.Errno
	tight bool // where it frees room at last, there may be none for what goes ahead of that
}

// behind: what a Save or Commit that meets this should do.
func (r *trip) behind(met []core.Met, more []api.Change) intent {
	f := r.v.FS()
	p := r.m.kept.behind(give("s", eight(f.Last(0))))
	long := false
	for _, x := range met {
		n, there := f.Node(x.ID)
		long = long || len(n.Verf) > 64
		if x.Name == "" {
			p = p.without("i" + eight(x.ID)).without("d" + eight(x.ID))
			if there {
				for k, v := range filePairs(n) {
					p[k] = v
				}
			}
		} else if e, ok := n.Names.Get(x.Name); ok {
			p["e"+eight(x.ID)+x.Name] = eights(e.ID, e.Cookie)
		} else {
			delete(p, "e"+eight(x.ID)+x.Name)
		}
	}
	var ahead, rest []api.Change
	for _, c := range p.lacks(r.m.kept) {
		if c.Key[0] == 'd' && slices.Contains(r.m.dirty, number(c.Key[1:9])) {
			ahead = append(ahead, c)
		} else {
			rest = append(rest, c)
		}
	}
	rest = append(rest, more...)
	_, room := r.v.Bytes()
	w := intent{kept: p.behind(more...), dirty: r.m.dirty}
	met = slices.Clone(met)
	w.dirty = slices.DeleteFunc(slices.Clone(w.dirty), func(id int) bool { return slices.Contains(met, core.Met{ID: id}) })
	w.tight = body(append(ahead, rest...)...) > longest && r.m.kept.behind(ahead...).bytes() > max(room, r.m.kept.bytes())
	switch {
	case long || slices.ContainsFunc(more, bad):
		w.e = api.ErrArg
	case body(append(ahead, rest...)...) > longest && (len(ahead) == 0 || body(rest...) > longest):
		w.e = api.ErrLong
	case w.kept.bytes() > max(room, r.m.kept.bytes()):
		w.e = api.ErrFull
	}
	return w
}

func bad(c api.Change) bool {
	return c.Key == "" || len(c.Key) > 80 || len(c.Value) > 2000 || ours(c.Key)
}

// keeps: a Save or Commit, and what must be behind it.
func (r *trip) keeps(met []core.Met, more []api.Change, call func() api.Errno) {
	t := r.t
	w := r.behind(met, more)
	o := outcome{ahead: r.m.kept, behind: w.kept, then: allPairs(r.v.FS()), dirty: r.m.dirty}
	cut := r.Intn(8) == 0
	if cut {
		r.d.Cut(1+r.Intn(16), r.Int()&r.Int()|r.Intn(4))
	}
	e := call()
	r.seen[e]++
	switch {
	case e == api.ErrPower && cut:
		r.lost(o)
		return
	case e == api.ErrFull && w.tight:
	case e != w.e:
		t.Errorf("answered %d, not %d", e, w.e)
	}
	if e == api.OK {
		r.m = model{kept: w.kept, now: stateOf(r.v.FS()), dirty: w.dirty}
	}
	r.d.Cut(1<<40, 0) // never
}

// lost: the power went off.
func (r *trip) lost(o outcome) {
	r.d.On()
	isDirty(r.t, r.v, o.dirty...)
	got := lies(r.t, r.d)
	if !o.may(got) {
		differ(r.t, "ahead", got, o.ahead)
		differ(r.t, "behind", got, o.behind)
	}
	r.again()
}

// again: the Vol is opened anew.
func (r *trip) again() {
	r.v = reopened(r.t, r.d)
	r.m = model{kept: lies(r.t, r.d), now: stateOf(r.v.FS())}
}

func (r *trip) step() {
	alone := r.Intn(2) == 0
	for range 1 + r.Intn(4)*r.Intn(2) {
		if alone {
			r.alters()
		} else {
			r.moves()
		}
	}
	met := r.v.FS().Clone().Met()
	switch {
	case alone && r.Intn(3) > 0:
		r.v.Keep()
		for _, x := range met {
			if !slices.Contains(r.m.dirty, x.ID) {
				r.m.dirty = append(r.m.dirty, x.ID)
			}
		}
		slices.Sort(r.m.dirty)
		r.m.now = stateOf(r.v.FS())
	default:
		more := r.more()
		r.keeps(met, more, func() api.Errno { return r.v.Save(more...) })
	}
	if len(r.m.dirty) > 0 && r.Intn(3) == 0 {
		id := pick(r, r.m.dirty...)
		r.keeps([]core.Met{{ID: id}}, nil, func() api.Errno { return r.v.Commit(id) })
	}
	switch r.Intn(40) {
	case 0:
		r.d.Crash(r.Int())
		differ(r.t, "Crash", lies(r.t, r.d), r.m.kept)
		r.again()
	case 1:
		is(r.t, "Clean", r.v.Clean(), api.OK)
	}
}

// P15.1 to P15.5: calls by chance, held against the model step by step.
func TestByChance(t *testing.T) {
	seen := map[api.Errno]int{}
	for seed := range int64(12) {
		d, v := formatted(t, pick(&trip{Rand: rand.New(rand.NewSource(seed))}, 130, 130, 258, 514))
		r := &trip{Rand: rand.New(rand.NewSource(seed)), t: t, d: d, v: v, seen: seen}
		r.again()
		for i := range 300 {
			r.step()
			same(t, "in memory", stateOf(r.v.FS()), r.m.now)
			differ(t, "on the disk", lies(t, d), r.m.kept)
			isDirty(t, r.v, r.m.dirty...)
			if live, _ := r.v.Bytes(); live != r.m.kept.bytes() {
				t.Errorf("%d bytes live, not %d", live, r.m.kept.bytes())
			}
			if t.Failed() {
				t.Fatalf("seed %d, step %d", seed, i)
			}
		}
	}
	for e, least := range map[api.Errno]int{api.OK: 1500, api.ErrArg: 50, api.ErrLong: 15, api.ErrFull: 50, api.ErrPower: 50} {
		if seen[e] < least {
			t.Errorf("error %d came %d times, not %d", e, seen[e], least)
		}
	}
}
