package vol_test

import (
	"math"
	"strconv"
	"testing"

	"coracle/api"
	"coracle/attr"
	"coracle/sector"
	"coracle/seglog"
	"coracle/vol"
)

// The chapter's example.
func TestExample(t *testing.T) {
	for _, keep := range []int{0, -1} {
		d, v := formatted(t, 130)
		n := create(t, v, 1, "f")
		saved(t, v)
		write(t, v, n, 0, "abc")
		v.Keep()
		d.Crash(keep)
		if s := read(t, reopened(t, d), n); s != "" {
			t.Errorf("Read: %q", s)
		}
	}
}

// P15.3: what was met by regular files is dirty till a Commit, and nothing of it is written.
func TestKeepCommit(t *testing.T) {
	d, v := formatted(t, 258)
	var ids []int
	for i := range 5 {
		ids = append(ids, create(t, v, 1, "f"+strconv.Itoa(i)))
	}
	saved(t, v)
	isDirty(t, v)
	for _, i := range []int{3, 0, 4, 1} {
		write(t, v, ids[i], 100*i, sized(100))
		if i == 0 {
			size(t, v, ids[i], 1000)
		}
		if i != 4 {
			v.Keep()
		}
	}
	p := lies(t, d)
	isDirty(t, v, ids[0], ids[1], ids[3], ids[4])
	for _, id := range []int{ids[2], 1, 0, -1, 99, math.MaxInt, math.MinInt} { // none of them is dirty
		is(t, "Commit", v.Commit(id), api.OK)
	}
	differ(t, "Keep", lies(t, d), p)
	for i, left := range map[int][]int{3: {ids[0], ids[1], ids[4]}} {
		is(t, "Commit", v.Commit(ids[i]), api.OK)
		isDirty(t, v, left...)
		for range 2 {
			p = p.without("i" + eight(ids[i])).without("d" + eight(ids[i]))
			for k, x := range filePairs(must(v, ids[i])) {
				p[k] = x
			}
			differ(t, "Commit", lies(t, d), p)
			is(t, "Commit again", v.Commit(ids[i]), api.OK)
		}
	}
	f := v.FS()
	is(t, "Commit", v.Commit(ids[0]), api.OK)
	is(t, "Commit", v.Commit(ids[4]), api.OK)
	is(t, "Commit", v.Commit(ids[1]), api.OK)
	isDirty(t, v)
	if v.FS() != f {
		t.Error("the file system is another one behind a Commit")
	}
	differ(t, "Commit", lies(t, d), allPairs(v.FS()))
	same(t, "Commit", stateOf(reopened(t, d).FS()), stateOf(v.FS()))
}

// P15.3: a Save keeps all of a dirty file that it meets, and nothing of others.
func TestSaveOfDirty(t *testing.T) {
	d, v := formatted(t, 258)
	a, b, c := create(t, v, 1, "a"), create(t, v, 1, "b"), create(t, v, 1, "c")
	write(t, v, c, 0, sized(400))
	saved(t, v)
	kept := map[int]string{a: filePairs(must(v, a))["i"+eight(a)], b: filePairs(must(v, b))["i"+eight(b)]}
	for _, id := range []int{a, b, c} {
		write(t, v, id, 50, sized(700))
		v.Keep()
	}
	create(t, v, 1, "d")
	saved(t, v)
	isDirty(t, v, a, b, c)
	did(t, v.FS().Link(super, a, 1, "link"))
	saved(t, v)
	isDirty(t, v, b, c)
	did(t, v.FS().Remove(super, 1, "c"))
	saved(t, v)
	isDirty(t, v, b)
	want := allPairs(v.FS()).without("d" + eight(b)).without("i" + eight(b)).behind(give("i"+eight(b), kept[b]))
	differ(t, "Save", lies(t, d), want)
	is(t, "Commit of what is gone", v.Commit(c), api.OK)
	d.Crash(-1)
	got := reopened(t, d)
	if s := read(t, got, a); s != noughts(50)+sized(700) {
		t.Errorf("Read: %d bytes", len(s))
	}
	if s := read(t, got, b); s != "" {
		t.Errorf("Read: %q", s)
	}
}

// big: a file system with a dirty file of which more pieces must be kept than fit into one Commit.
func big(t *testing.T, sectors int) (*sector.Disk, *vol.Vol, int) {
	t.Helper()
	d, v := formatted(t, sectors)
	n := create(t, v, 1, "n")
	saved(t, v)
	for i := range 16 {
		write(t, v, n, 512*i, sized(512))
		v.Keep()
	}
	return d, v, n
}

// P15.3: pieces of a dirty file that don't fit into one Commit are kept all the same, by a Commit and by a Save.
func TestManyPieces(t *testing.T) {
	for name, call := range map[string]func(v *vol.Vol, n int) api.Errno{
		"Commit": func(v *vol.Vol, n int) api.Errno { return v.Commit(n) },
		"Save": func(v *vol.Vol, n int) api.Errno {
			did(t, v.FS().SetAttr(super, n, attr.Set{HasMode: true, Mode: 0600}, nil))
			return v.Save()
		},
		"Save of a name": func(v *vol.Vol, n int) api.Errno {
			did(t, v.FS().Rename(super, 1, "n", 1, "m"))
			return v.Save(give("r", sized(2000)), take("r"))
		},
		"Save of many bytes": func(v *vol.Vol, n int) api.Errno {
			write(t, v, n, 0, noughts(100)+sized(8000))
			return v.Save()
		},
	} {
		d, v, n := big(t, 258)
		is(t, name, call(v, n), api.OK)
		isDirty(t, v)
		differ(t, name, lies(t, d), allPairs(v.FS()))
		same(t, name, stateOf(reopened(t, d).FS()), stateOf(v.FS()))
		size(t, v, n, 1)
		v.Keep()
		is(t, "Commit", v.Commit(n), api.OK)
		differ(t, name, lies(t, d), allPairs(v.FS()))
	}
}

// P15.3: a Save that meets many dirty files.
func TestManyDirty(t *testing.T) {
	d, v, n := big(t, 514)
	for i := range 4 {
		create(t, v, 1, "f"+strconv.Itoa(i))
	}
	saved(t, v)
	isDirty(t, v, n)
	for id := n + 1; id < n+5; id++ {
		write(t, v, id, 0, sized(900))
		v.Keep()
	}
	isDirty(t, v, n, n+1, n+2, n+3, n+4)
	for id := n; id < n+5; id++ {
		did(t, v.FS().SetAttr(super, id, attr.Set{HasMode: true, Mode: 0600}, nil))
	}
	is(t, "Save", v.Save(give("r", "1")), api.OK)
	isDirty(t, v)
	differ(t, "Save", lies(t, d), allPairs(v.FS()).behind(give("r", "1")))
}

// P15.2, P15.3: of a dirty file that doesn't fit into one Commit nothing is kept by what is refused.
func TestManyPiecesRefused(t *testing.T) {
	d, v, n := big(t, 258)
	then := stateOf(v.FS())
	never := func() { write(t, v, n, 0, noughts(1)+sized(8190)) }
	refused(t, "too long", d, v, then, api.ErrLong, func() api.Errno { never(); return v.Save(give("r", sized(2000)), give("q", sized(1700))) })
	refused(t, "no good", d, v, then, api.ErrArg, func() api.Errno { never(); return v.Save(give("r", sized(2001))) })
	refused(t, "no key of the caller's", d, v, then, api.ErrArg, func() api.Errno { never(); return v.Save(give("s", eight(9))) })
	refused(t, "a long Verf", d, v, then, api.ErrArg, func() api.Errno { never(); exclusive(t, v, "x", sized(65)); return v.Save() })
	is(t, "Commit", v.Commit(n), api.OK)
	differ(t, "Commit", lies(t, d), allPairs(v.FS()))

	d, v, n = big(t, 130) // there is no room for so much
	then = stateOf(v.FS())
	refused(t, "no room", d, v, then, api.ErrFull, func() api.Errno { never(); return v.Save() })
	for range 2 {
		refused(t, "no room", d, v, then, api.ErrFull, func() api.Errno { return v.Commit(n) })
	}
	size(t, v, n, 5000)
	v.Keep()
	is(t, "Commit", v.Commit(n), api.OK)
	differ(t, "Commit", lies(t, d), allPairs(v.FS()))
}

// P15.3: where a file's pieces free as much room as they need, there is room for them.
func TestPiecesFreeRoom(t *testing.T) {
	d, v, n := big(t, 130)
	for i := range 32 {
		write(t, v, n, 128*i, noughts(128))
		v.Keep()
	}
	is(t, "Commit", v.Commit(n), api.OK)
	live, room := v.Bytes()
	saved(t, v, give("r", sized(room-live-20-100)))
	for i := range 4 { // bytes come to stand where there were noughts, ahead of those that become noughts
		write(t, v, n, 1024*i, sized(1024))
		v.Keep()
	}
	for i := range 32 {
		write(t, v, n, 4096+128*i, noughts(128))
		v.Keep()
	}
	p := lies(t, d)
	is(t, "Commit", v.Commit(n), api.OK)
	differ(t, "Commit", lies(t, d), allPairs(v.FS()).behind(give("r", p["r"])))
	same(t, "Commit", stateOf(reopened(t, d).FS()), stateOf(v.FS()))
}

// P15.2, P15.3: where not all pieces that must go ahead have room, since it is freed behind them alone, none is kept.
func TestNoRoomAhead(t *testing.T) {
	d, v, g := big(t, 258)
	is(t, "Commit", v.Commit(g), api.OK)
	f := create(t, v, 1, "f")
	saved(t, v)
	for i := range 16 {
		write(t, v, f, 512*i, sized(512))
		v.Keep()
	}
	refused(t, "a Save", d, v, stateOf(v.FS()), api.ErrFull, func() api.Errno {
		did(t, v.FS().Remove(super, 1, "n"))
		write(t, v, f, 0, "never")
		return v.Save()
	})
	did(t, v.FS().Remove(super, 1, "n"))
	saved(t, v)
	is(t, "Commit", v.Commit(f), api.OK)
	differ(t, "Commit", lies(t, d), allPairs(v.FS()))
}

// P15.2, P15.3: what stands beside the pieces of a dirty file must fit into one Commit; at the edge.
func TestBesidePieces(t *testing.T) {
	d, v, n := big(t, 514)
	then := stateOf(v.FS())
	left := longest - 4 - 188 - 16 - 2020 - 20
	save := func(left int) api.Errno {
		did(t, v.FS().SetAttr(super, n, attr.Set{HasMode: true, Mode: 0600}, nil))
		return v.Save(take("none"), give("r", sized(2000)), give("q", sized(left)))
	}
	refused(t, "one byte too much", d, v, then, api.ErrLong, func() api.Errno { return save(left + 1) })
	is(t, "Save", save(left), api.OK)
	differ(t, "Save", lies(t, d), allPairs(v.FS()).behind(give("r", sized(2000)), give("q", sized(left))))
}

// P15.3: the pieces of dirty files that are gone may go ahead, too.
func TestManyGone(t *testing.T) {
	d, v := formatted(t, 1026)
	for i := range 4 {
		n := create(t, v, 1, strconv.Itoa(i))
		saved(t, v)
		write(t, v, n, 0, sized(8192))
		v.Keep()
		is(t, "Commit", v.Commit(n), api.OK)
		write(t, v, n, 0, "dirty")
		v.Keep()
	}
	for i := range 4 {
		did(t, v.FS().Remove(super, 1, strconv.Itoa(i)))
	}
	saved(t, v)
	isDirty(t, v)
	differ(t, "Save", lies(t, d), allPairs(v.FS()))
}

// P15.2, P15.3: where more lives than there is room, what doesn't grow can be kept all the same.
func TestMoreThanRoom(t *testing.T) {
	_, v := formatted(t, 1026)
	n := create(t, v, 1, "n")
	saved(t, v)
	for i := range 16 {
		write(t, v, n, 512*i, sized(512))
		v.Keep()
	}
	d := laid(t, 130, allPairs(v.FS()))
	v = reopened(t, d)
	if live, room := v.Bytes(); live <= room {
		t.Fatalf("%d of %d live", live, room)
	}
	then := stateOf(v.FS())
	refused(t, "what grows", d, v, then, api.ErrFull, func() api.Errno { create(t, v, 1, "x"); return v.Save() })
	for i := range 16 {
		write(t, v, n, 512*i, sized(513)[1:])
		v.Keep()
	}
	is(t, "Commit", v.Commit(n), api.OK)
	differ(t, "Commit", lies(t, d), allPairs(v.FS()))
}

// laid: pairs on a disk, laid there by layer 5, whether there is room for them or not.
func laid(t *testing.T, sectors int, p pairs) *sector.Disk {
	t.Helper()
	d := blank(t, sectors)
	e := seglog.Format(d)
	l, _, e2 := seglog.Open(d)
	var bodies []string
	for _, c := range p.lacks(pairs{}) {
		change := four(1) + four(0) + opaque(c.Key) + opaque(c.Value)
		if last := len(bodies) - 1; last >= 0 && len(bodies[last])+len(change) < longest {
			bodies[last] += change
		} else {
			bodies = append(bodies, change)
		}
	}
	for _, b := range bodies {
		if e == api.OK && e2 == api.OK {
			_, e = l.Append(b + four(0))
		}
	}
	if e != api.OK || e2 != api.OK {
		t.Fatalf("the log: %d %d", e, e2)
	}
	return d
}

// P15.3: of what Keep finds to be met regular files alone are dirty.
func TestKeepOfOthers(t *testing.T) {
	_, v := formatted(t, 130)
	mkdir(t, v, 1, "d")
	n := create(t, v, 1, "n")
	made(t)(v.FS().Make(super, 1, "p", attr.Fifo, attr.Set{}, "", 0, 0))
	create(t, v, 1, "gone")
	did(t, v.FS().Remove(super, 1, "gone"))
	v.Keep()
	isDirty(t, v, n)
	if l := v.FS().Met(); len(l) != 0 {
		t.Errorf("met is %v", l)
	}
}

// P15.3: what Dirty answers is its caller's.
func TestDirtyIsNew(t *testing.T) {
	_, v, n := big(t, 258)
	l := v.Dirty()
	l[0] = 99
	isDirty(t, v, n)
	is(t, "Commit", v.Commit(99), api.OK)
	isDirty(t, v, n)
}
