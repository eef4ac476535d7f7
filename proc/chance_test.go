package proc_test

import (
	"math"
	"math/rand"
	"slices"
	"strings"
	"testing"

	"coracle/api"
	"coracle/attr"
	"coracle/core"
	"coracle/dir"
	"coracle/handle"
	"coracle/proc"
	"coracle/schema"
	"coracle/shape"
)

// request is a call of a procedure, as it is meant.
type request struct {
	number         int
	caller         core.Caller
	first, second  string // handles
	name, other    string
	offset, count  int
	how, kind      int
	set            attr.Set
	guard          []attr.Time
	data, target   string
	verf           string
	major, minor   int
	ignored, asked int
}

// args: how it is asked.
func (q request) args() api.Value {
	s := set(q.set)
	switch q.number {
	case 2:
		n := append(s, len(q.guard))
		for _, g := range q.guard {
			n = append(n, g.S, g.N)
		}
		return value(n, q.first)
	case 3, 12, 13:
		return value(nil, q.first, q.name)
	case 4:
		return value([]int{q.asked}, q.first)
	case 6:
		return value([]int{q.offset, q.count}, q.first)
	case 7:
		return value([]int{q.offset, q.count, q.how}, q.first, q.data)
	case 8:
		if q.how%3 == 2 {
			return value([]int{2}, q.first, q.name, q.verf)
		}
		return value(join([]int{q.how % 3}, s), q.first, q.name)
	case 9:
		return value(s, q.first, q.name)
	case 10:
		return value(s, q.first, q.name, q.target)
	case 11:
		switch q.kind {
		case 3, 4:
			return value(join([]int{q.kind}, s, []int{q.major, q.minor}), q.first, q.name)
		case 6, 7:
			return value(join([]int{q.kind}, s), q.first, q.name)
		}
		return value([]int{q.kind}, q.first, q.name)
	case 14:
		return value(nil, q.first, q.name, q.second, q.other)
	case 15:
		return value(nil, q.first, q.second, q.name)
	case 16:
		return value([]int{q.offset, q.count}, q.first, q.verf)
	case 17:
		return value([]int{q.offset, q.ignored, q.count}, q.first, q.verf)
	case 21:
		return value([]int{q.offset, q.ignored}, q.first)
	}
	return value(nil, q.first)
}

// outcome is what a call comes to, on a file system that it was made on.
type outcome struct {
	status     api.Status
	lead, tail []int // ahead of P and W of the handles, and behind them
	texts      []string
	effect     proc.Effect
}

// number: what a handle tells, and its status.
func number(g *core.FS, s string) (int, api.Status) {
	id, st := handle.Number(s)
	if _, there := g.Node(id); st == 0 && !there {
		return id, api.Stale
	}
	return id, st
}

// on: the call, done by layer 13's calls alone.
func (q request) on(g *core.FS) outcome {
	a, st := number(g, q.first)
	if st != 0 {
		return outcome{status: st}
	}
	b := 0
	if q.number == 14 || q.number == 15 {
		if b, st = number(g, q.second); st != 0 {
			return outcome{status: st}
		}
	}
	switch {
	case q.number >= 8 && q.number <= 11:
		return q.makes(g, a)
	case q.number >= 12 && q.number <= 15:
		return q.renames(g, a, b)
	case q.number >= 16:
		return q.lists(g, a)
	}
	return q.looks(g, a)
}

// looks: the procedures from 1 to 7.
func (q request) looks(g *core.FS, a int) outcome {
	switch q.number {
	case 1:
		return outcome{tail: p(g, a)[1:]}
	case 2:
		return outcome{status: g.SetAttr(q.caller, a, q.set, q.guard), effect: save}
	case 3:
		id, st := g.Lookup(q.caller, a, q.name)
		return outcome{status: st, lead: p(g, id), texts: []string{h(id)}}
	case 4:
		bits, st := g.Access(q.caller, a, q.asked)
		return outcome{status: st, tail: []int{bits}}
	case 5:
		s, st := g.Readlink(q.caller, a)
		return outcome{status: st, texts: []string{s}}
	case 6:
		s, end, st := g.Read(q.caller, a, q.offset, min(q.count, 512))
		return outcome{status: st, tail: []int{len(s), map[bool]int{true: 1}[end]}, texts: []string{s}}
	}
	if q.how > 2 {
		return outcome{status: api.Inval}
	}
	data := q.data
	if q.count < len(data) {
		data = data[:q.count]
	}
	st := g.Write(q.caller, a, q.offset, data)
	return outcome{status: st, tail: []int{len(data), []int{0, 2, 2}[q.how]}, texts: []string{boot5}, effect: proc.Effect{Kind: []int{proc.Keep, proc.Save, proc.Save}[q.how]}}
}

// makes: the procedures from 8 to 11.
func (q request) makes(g *core.FS, a int) outcome {
	var id int
	var st api.Status
	switch q.number {
	case 8:
		id, st = g.Create(q.caller, a, q.name, q.how%3, q.set, q.verf)
	case 9:
		id, st = g.Make(q.caller, a, q.name, attr.Dir, q.set, "", 0, 0)
	case 10:
		id, st = g.Make(q.caller, a, q.name, attr.Lnk, q.set, q.target, 0, 0)
	default:
		if !slices.Contains([]int{3, 4, 6, 7}, q.kind) {
			return outcome{status: api.BadType}
		}
		id, st = g.Make(q.caller, a, q.name, q.kind, q.set, "", q.major, q.minor)
	}
	return outcome{status: st, lead: join([]int{1}, p(g, id)), texts: []string{h(id)}, effect: save}
}

// renames: the procedures from 12 to 15.
func (q request) renames(g *core.FS, a, b int) outcome {
	x := outcome{effect: save}
	switch q.number {
	case 12:
		x.status = g.Remove(q.caller, a, q.name)
	case 13:
		x.status = g.Rmdir(q.caller, a, q.name)
	case 14:
		x.status = g.Rename(q.caller, a, q.name, b, q.other)
	case 15:
		x.status = g.Link(q.caller, a, b, q.name)
	}
	return x
}

// lists: the procedures from 16 on.
func (q request) lists(g *core.FS, a int) outcome {
	n, _ := g.Node(a)
	switch q.number {
	case 16, 17:
		return q.listing(g, a)
	case 18:
		left := 1048576 - len(g.IDs())
		return outcome{tail: []int{700, 300, 300, 1048576, left, left, 0}}
	case 19:
		return outcome{tail: []int{512, 512, 1, 512, 512, 1, 512, 8192, 1, 0, 27}}
	case 20:
		return outcome{tail: []int{100, 64, 1, 1, 0, 1}}
	}
	switch n.Kind {
	case attr.Reg:
		return outcome{texts: []string{boot5}, effect: proc.Effect{Kind: proc.Commit, ID: a}}
	case attr.Dir:
		return outcome{status: api.IsDir}
	}
	return outcome{status: api.Inval}
}

// listing: entry by entry, as long as they fit.
func (q request) listing(g *core.FS, a int) outcome {
	if q.offset != 0 && q.verf != noughts {
		return outcome{status: api.BadCookie}
	}
	l, _, st := g.Readdir(q.caller, a, q.offset, math.MaxInt)
	if st != 0 {
		return outcome{status: st}
	}
	var fit []dir.Entry
	for size := 0; len(fit) < len(l); {
		e := l[len(fit)]
		size += 24
		for n := 0; n < len(e.Name); n += 4 {
			size += 4
		}
		if q.number == 17 {
			size += 128
		}
		if size > q.count {
			break
		}
		fit = append(fit, e)
	}
	if len(fit) == 0 && len(l) > 0 {
		return outcome{status: api.TooSmall}
	}
	all := 0
	if len(fit) == len(l) {
		all = 1
	}
	v := listed(g, a, fit, all, q.number == 17)
	return outcome{tail: v.N[1+18:], texts: v.T}
}

// answers: what should be answered; g becomes what the file system should be then.
func (q request) answers(g *core.FS) (api.Value, proc.Effect) {
	ahead := g.Clone()
	x := q.on(g)
	a, _ := handle.Number(q.first)
	b, _ := handle.Number(q.second)
	known := laidOut(behindBad[q.number], ahead, g, a, b)
	if x.status != 0 {
		return value(append([]int{int(x.status)}, known...)), proc.Effect{}
	}
	return value(join([]int{0}, x.lead, known, x.tail), x.texts...), x.effect
}

// chooser chooses what is asked: mostly what may be, now and then what may not.
type chooser struct {
	*rand.Rand
	f   *core.FS
	now int
}

func pick[T any](r *chooser, l ...T) T { return l[r.Intn(len(l))] }

func (r *chooser) seldom() bool { return r.Intn(15) == 0 }

func (r *chooser) handle(kinds ...int) string {
	if r.seldom() {
		return pick(r, pick(r, bad...), h(r.f.Last(0)+1), h(math.MaxInt))
	}
	var l []int
	for _, id := range r.f.IDs() {
		if n, _ := r.f.Node(id); len(kinds) == 0 || r.seldom() || slices.Contains(kinds, n.Kind) {
			l = append(l, id)
		}
	}
	if len(l) == 0 {
		return h(root)
	}
	return h(pick(r, l...))
}

// spot: a directory, and mostly a name in it.
func (r *chooser) spot() (string, string) {
	s := r.handle(attr.Dir)
	id, _ := handle.Number(s)
	n, _ := r.f.Node(id)
	if l := n.Names.After(0, 9); len(l) > 0 && r.Intn(3) > 0 {
		return s, pick(r, l...).Name
	}
	return s, r.name()
}

func (r *chooser) name() string {
	if r.seldom() {
		return pick(r, "", ".", "..", "a/b", "a\x00", strings.Repeat("x", 64), strings.Repeat("x", 65), strings.Repeat("y", 255))
	}
	return pick(r, "a", "b", "c", "ccccc")
}

func (r *chooser) set() attr.Set {
	s := attr.Set{HowAccess: pick(r, 0, 0, 1, 2), HowModify: pick(r, 0, 0, 1, 2)}
	if s.HasMode = r.Intn(3) == 0; s.HasMode {
		s.Mode = pick(r, 0777, 0755, 0700, 0070, 07777, 1<<31)
	}
	if s.HasUID = r.Intn(6) == 0; s.HasUID {
		s.UID = pick(r, 0, 7, 9)
	}
	if s.HasGID = r.Intn(6) == 0; s.HasGID {
		s.GID = pick(r, 0, 17, 19)
	}
	if s.HasSize = r.Intn(3) == 0; s.HasSize {
		s.Size = pick(r, 0, 1, 100, 600, 8192, 8193, -1, math.MaxInt)
	}
	if s.HowAccess == 2 {
		s.Access = attr.Time{S: r.Intn(9), N: r.Intn(9)}
	}
	if s.HowModify == 2 {
		s.Modify = attr.Time{S: r.Intn(9), N: r.Intn(9)}
	}
	return s
}

// guard: mostly none, or the right one.
func (r *chooser) guard(file string) []attr.Time {
	id, _ := handle.Number(file)
	n, _ := r.f.Node(id)
	return pick(r, nil, nil, []attr.Time{n.Change}, []attr.Time{{S: n.Change.S, N: 1}})
}

func (r *chooser) request() request {
	r.now += r.Intn(3)
	q := request{
		number: 1 + r.Intn(21),
		caller: core.Caller{Who: pick(r, super, super, joe, joe, ann).Who, Now: r.now},
		other:  r.name(), how: pick(r, 0, 1, 2, 2, 3), kind: pick(r, 0, 1, 2, 3, 4, 5, 6, 7, 8),
		set:  r.set(),
		data: strings.Repeat(pick(r, "x", "yz", "\x00"), r.Intn(256)), target: pick(r, "", "/", "/x/y", strings.Repeat("t", 257)),
		verf: pick(r, noughts, noughts, boot5), major: r.Intn(9), minor: r.Intn(9),
		ignored: pick(r, 0, 1, math.MaxUint32), asked: pick(r, 63, 31, r.Intn(64), math.MaxUint32),
	}
	q.first, q.name = r.spot()
	q.second = r.handle(attr.Dir)
	switch q.number {
	case 1, 2, 4, 15:
		q.first = r.handle()
	case 5:
		q.first = r.handle(attr.Lnk)
	case 6, 7, 21:
		q.first = r.handle(attr.Reg)
	}
	q.guard = r.guard(q.first)
	q.offset, q.count = pick(r, 0, 0, 1, 2, 3, 5, 90, 600, 7900, -1, math.MaxInt), pick(r, 0, 20, 28, 60, 160, 300, 512, 513, 9000, math.MaxUint32)
	return q
}

// P17.1 to P17.3: calls by chance, held against layer 13's calls step by step; and Refuse against what was answered.
func TestByChance(t *testing.T) {
	seen := map[[2]int]int{}
	for seed := range int64(40) {
		r := &chooser{Rand: rand.New(rand.NewSource(seed)), f: core.New(5), now: 5}
		for range 800 {
			q := r.request()
			ahead, g := r.f.Clone(), r.f.Clone()
			want, effect := q.answers(g)
			does(t, r.f, q.caller, q.number, q.args(), want, effect)
			alike(t, r.f, g)
			if want.N[0] != 0 {
				if v := proc.Refuse(ahead, q.number, q.args(), api.Status(want.N[0])); !same(v, want) {
					t.Errorf("Refuse of procedure %d: %v, not %v", q.number, v, want)
				}
			}
			if t.Failed() {
				t.Fatalf("seed %d: %+v", seed, q)
			}
			seen[[2]int{q.number, want.N[0]}]++
		}
	}
	for number := 1; number <= 21; number++ {
		for _, st := range []api.Status{0, api.Stale, api.BadHandle} {
			if seen[[2]int{number, int(st)}] < 5 {
				t.Errorf("procedure %d: status %d came %d times", number, st, seen[[2]int{number, int(st)}])
			}
		}
	}
	for _, x := range [][2]int{{2, 1}, {2, 10002}, {2, 27}, {3, 2}, {7, 22}, {7, 27}, {8, 17}, {11, 10007}, {12, 21}, {13, 66}, {14, 17}, {14, 22}, {16, 10003}, {16, 10005}, {17, 10005}, {21, 21}} {
		if seen[x] < 5 {
			t.Errorf("procedure %d: status %d came %d times", x[0], x[1], seen[x])
		}
	}
}

// spoilt: arguments of which one number or text is another one, wanting or too much.
func (r *chooser) spoilt(v api.Value) api.Value {
	n, texts := slices.Clone(v.N), slices.Clone(v.T)
	at := func(length int) int { return r.Intn(length + 1) }
	switch i, j := at(len(n)), at(len(texts)); r.Intn(6) {
	case 0:
		n = slices.Insert(n, i, pick(r, 0, 1, 2, -1, 1<<32))
	case 1:
		n = slices.Delete(n, max(i-1, 0), i)
	case 2, 3:
		if i > 0 {
			n[i-1] = pick(r, -1, 0, 1, 2, 3, 1<<32-1, 1<<32, math.MinInt, math.MaxInt)
		}
	case 4:
		texts = slices.Insert(texts, j, pick(r, "", h(root), strings.Repeat("x", 2000)))
	case 5:
		texts = slices.Delete(texts, max(j-1, 0), j)
	}
	return api.Value{N: n, T: texts}
}

// P17.1: spoilt arguments are answered just where they are of the form still.
func TestSpoiltByChance(t *testing.T) {
	var taken, none int
	for seed := range int64(5) {
		r := &chooser{Rand: rand.New(rand.NewSource(seed)), f: core.New(5), now: 5}
		for range 4000 {
			q := r.request()
			args := r.spoilt(q.args())
			form, _, _ := shape.Of(nfs, q.number)
			_, e := schema.Encode(form, args)
			v, effect := proc.Do(r.f, q.caller, env, q.number, args)
			refused := proc.Refuse(r.f, q.number, args, api.IO)
			if e == api.OK {
				taken++
				fits(t, q.number, v)
				fits(t, q.number, refused)
				continue
			}
			none++
			if len(v.N)+len(v.T)+len(refused.N)+len(refused.T) > 0 || effect != (proc.Effect{}) {
				t.Fatalf("procedure %d with %v: %v %v %v", q.number, args, v, effect, refused)
			}
		}
	}
	if taken < 1000 || none < 1000 {
		t.Errorf("%d were taken, %d not", taken, none)
	}
}
