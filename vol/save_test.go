package vol_test

import (
	"maps"
	"strconv"
	"testing"

	"coracle/api"
	"coracle/attr"
	"coracle/core"
	"coracle/sector"
	"coracle/vol"
)

// refused: a call is refused with this error: what is kept and what is dirty stay, and the file system is a new one, as it was then.
func refused(t *testing.T, what string, d *sector.Disk, v *vol.Vol, then state, want api.Errno, call func() api.Errno) {
	t.Helper()
	p, dirty, old := lies(t, d), v.Dirty(), v.FS()
	is(t, what, call(), want)
	differ(t, what, lies(t, d), p)
	isDirty(t, v, dirty...)
	if v.FS() == old {
		t.Errorf("%s: the file system isn't a new one", what)
	}
	same(t, what, stateOf(v.FS()), then)
	if l := v.FS().Met(); len(l) != 0 {
		t.Errorf("%s: met is %v", what, l)
	}
}

// P15.2: all that was met since the last Save is kept, by one call or by several; and the caller's changes.
func TestSave(t *testing.T) {
	d, v := formatted(t, 258)
	f := v.FS()
	a := mkdir(t, v, 1, "a")
	n := create(t, v, a, "n")
	write(t, v, n, 10, sized(400))
	saved(t, v, give("r", "1"), give("rr", sized(2000)), give("x", "2"), take("x"), give("y", "3"))
	if v.FS() != f {
		t.Error("the file system is another one behind a Save")
	}
	differ(t, "Save", lies(t, d), allPairs(v.FS()).behind(give("r", "1"), give("rr", sized(2000)), give("y", "3")))
	same(t, "Save", stateOf(reopened(t, d).FS()), stateOf(v.FS()))

	v = reopened(t, d)
	did(t, v.FS().Rename(super, a, "n", 1, "m"))
	did(t, v.FS().Rmdir(super, 1, "a"))
	did(t, v.FS().Link(super, n, 1, "l"))
	write(t, v, n, 128, noughts(128))
	saved(t, v, take("rr"), take("none"), give("r", ""))
	differ(t, "Save", lies(t, d), allPairs(v.FS()).behind(give("r", ""), give("y", "3")))
	if p := lies(t, d); p["d"+eight(n)+four(1)] != "" || p["d"+eight(n)+four(2)] == "" {
		t.Error("pieces")
	}
	same(t, "Save", stateOf(reopened(t, d).FS()), stateOf(v.FS()))

	v = reopened(t, d)
	did(t, v.FS().Remove(super, 1, "m"))
	did(t, v.FS().Remove(super, 1, "l"))
	saved(t, v)
	p := allPairs(v.FS())
	if len(p) != 2 {
		t.Errorf("%d pairs of the root alone", len(p))
	}
	differ(t, "Save", lies(t, d), p.behind(give("r", ""), give("y", "3")))
}

// P15.2: what wasn't met isn't kept, though it was asked; and a Save of nothing is well.
func TestSaveOfNothing(t *testing.T) {
	d, v := formatted(t, 130)
	n := create(t, v, 1, "n")
	saved(t, v)
	writes, flushes := d.Counts()
	read(t, v, n)
	v.FS().Lookup(super, 1, "n")
	saved(t, v)
	v.Keep()
	is(t, "Commit", v.Commit(n), api.OK)
	if w, f := d.Counts(); w != writes || f != flushes {
		t.Error("nothing was written, but the disk")
	}
	d.Cut(1, 0)
	saved(t, v) // nothing is written, so the power stays on
	if d.Off() {
		t.Error("the power is off")
	}
}

// P15.2: a Verf of 64 bytes is kept; of 65 bytes it is refused, ahead of all else.
func TestSaveVerf(t *testing.T) {
	d, v := formatted(t, 130)
	n := exclusive(t, v, "n", sized(64))
	saved(t, v, give("r", "1"))
	x, _ := reopened(t, d).FS().Node(n)
	if x.Verf != sized(64) {
		t.Errorf("Verf: %q", x.Verf)
	}
	v = reopened(t, d)
	then := stateOf(v.FS())
	for _, more := range [][]api.Change{nil, {give("r", "2")}, {give("", "")}, {give("r", sized(1990)), give("q", sized(1990))}} {
		refused(t, "a Verf of 65 bytes", d, v, then, api.ErrArg, func() api.Errno {
			create(t, v, 1, "a")
			exclusive(t, v, "m", sized(65))
			return v.Save(more...)
		})
	}
	exclusive(t, v, "m", sized(65))
	did(t, v.FS().Remove(super, 1, "m"))
	saved(t, v) // it is gone
	create(t, v, 1, "a")
	saved(t, v)
	same(t, "Save", stateOf(reopened(t, d).FS()), stateOf(v.FS()))
}

// P15.2: changes that layer 7 refuses, and such that aren't of the caller's keys.
func TestSaveMoreRefused(t *testing.T) {
	d, v := formatted(t, 130)
	n := create(t, v, 1, "n")
	saved(t, v, give("r", "1"))
	write(t, v, n, 0, "kept")
	v.Keep()
	then := stateOf(v.FS())
	for _, c := range []api.Change{
		give("", "1"), take(""), give(sized(81), ""), take("r" + sized(80)), give("r", sized(2001)), {Key: "r", Value: "1", Gone: true},
		give("s", eight(9)), take("s"), give("sx", ""), take("i" + eight(1)), give("i", "x"), give("e"+eight(1)+"x", eights(1, 9)), give("d"+eight(n)+four(0), "x"), take("d"),
	} {
		for _, more := range [][]api.Change{{c}, {give("r", "2"), c}, {c, give("r", "2")}} {
			refused(t, "more", d, v, then, api.ErrArg, func() api.Errno { create(t, v, 1, "x"); return v.Save(more...) })
			refused(t, "more, nothing met", d, v, then, api.ErrArg, func() api.Errno { return v.Save(more...) })
			refused(t, "more, a dirty file met", d, v, then, api.ErrArg, func() api.Errno { write(t, v, n, 0, sized(8192)); return v.Save(more...) })
		}
	}
	saved(t, v, give("r"+sized(79), sized(2000)))
	write(t, v, n, 4, " on")
	saved(t, v)
	if s := read(t, reopened(t, d), n); s != "kept on" {
		t.Errorf("Read: %q", s)
	}
}

// P15.2: a Save that doesn't fit into one Commit; at the edge.
func TestSaveErrLong(t *testing.T) {
	d, v := formatted(t, 258)
	n := create(t, v, 1, "n")
	saved(t, v)
	then := stateOf(v.FS())
	refused(t, "8192 bytes", d, v, then, api.ErrLong, func() api.Errno { write(t, v, n, 0, sized(8192)); return v.Save() })
	refused(t, "much by the caller", d, v, then, api.ErrLong, func() api.Errno {
		create(t, v, 1, "x")
		return v.Save(give("r", sized(2000)), give("q", sized(1500)))
	})
	write(t, v, n, 0, "x")
	rest := longest - body(filePairs(must(v, n)).lacks(pairs{})...) - 20
	then = stateOf(reopened(t, d).FS())
	v = reopened(t, d)
	refused(t, "one byte too much", d, v, then, api.ErrLong, func() api.Errno {
		write(t, v, n, 0, "x")
		return v.Save(give("r", sized(2000)), give("q", sized(rest-2020+1)))
	})
	write(t, v, n, 0, "x")
	saved(t, v, give("r", sized(2000)), give("q", sized(rest-2020)))
	size(t, v, n, 8192) // noughts take no room
	saved(t, v)
	write(t, v, n, 4000, sized(20*128))
	saved(t, v)
	size(t, v, n, 0)
	saved(t, v)
	same(t, "Save", stateOf(reopened(t, d).FS()), stateOf(v.FS()))
}

func must(v *vol.Vol, id int) core.Node {
	n, _ := v.FS().Node(id)
	return n
}

// P15.2: a disk without room; what is taken makes room.
func TestSaveErrFull(t *testing.T) {
	d, v := formatted(t, 130)
	var full []int
	for i := 0; ; i++ {
		then := stateOf(v.FS())
		n := create(t, v, 1, "f"+strconv.Itoa(i))
		write(t, v, n, 0, sized(500))
		p := allPairs(v.FS())
		if p.bytes() > 8*roomy {
			v = reopened(t, d)
			then = stateOf(v.FS())
			refused(t, "no room", d, v, then, api.ErrFull, func() api.Errno {
				create(t, v, 1, "f"+strconv.Itoa(i))
				write(t, v, n, 0, sized(500))
				return v.Save()
			})
			refused(t, "no room for the caller's", d, v, then, api.ErrFull, func() api.Errno { return v.Save(give("r", sized(1000))) })
			break
		}
		saved(t, v)
		full = append(full, n)
	}
	if len(full) < 4 {
		t.Fatalf("%d files", len(full))
	}
	_, room := v.Bytes()
	live, _ := v.Bytes()
	left := room - live - 20
	refused(t, "one byte too much", d, v, stateOf(v.FS()), api.ErrFull, func() api.Errno { return v.Save(give("r", sized(left+1))) })
	saved(t, v, give("r", sized(left)))
	if live, _ := v.Bytes(); live != room {
		t.Errorf("%d of %d live", live, room)
	}
	did(t, v.FS().SetAttr(super, full[0], attr.Set{HasMode: true, Mode: 0600}, nil)) // changes without growing
	saved(t, v)
	did(t, v.FS().Remove(super, 1, "f0"))
	create(t, v, 1, "g")
	saved(t, v)
	same(t, "Save", stateOf(reopened(t, d).FS()), stateOf(v.FS()))
}

// P15.2: a refused Save goes back to what was kept in memory, too; and the numbers that it gave aren't given.
func TestRefusedBehindKeep(t *testing.T) {
	d, v := formatted(t, 130)
	n, m := create(t, v, 1, "n"), create(t, v, 1, "m")
	saved(t, v)
	write(t, v, n, 0, "dirty")
	v.Keep()
	write(t, v, n, 5, ", too")
	v.Keep()
	write(t, v, m, 0, "m")
	saved(t, v)
	then := stateOf(v.FS())
	refused(t, "a Save", d, v, then, api.ErrArg, func() api.Errno {
		write(t, v, n, 0, "never")
		did(t, v.FS().Remove(super, 1, "m"))
		exclusive(t, v, "x", sized(65))
		return v.Save()
	})
	isDirty(t, v, n)
	if s := read(t, v, n); s != "dirty, too" {
		t.Errorf("Read: %q", s)
	}
	if id := create(t, v, 1, "x"); id != 4 {
		t.Errorf("a new file is %d", id)
	}
	saved(t, v)
	is(t, "Commit", v.Commit(n), api.OK)
	refused(t, "a Save", d, v, stateOf(v.FS()), api.ErrArg, func() api.Errno { write(t, v, n, 0, "never"); return v.Save(give("", "")) })
	if s := read(t, reopened(t, d), n); s != "dirty, too" {
		t.Errorf("Read: %q", s)
	}
}

// The arguments stay, and nothing of them is kept but their texts.
func TestArgumentsStay(t *testing.T) {
	_, v := formatted(t, 130)
	room := []api.Change{give("r", "1"), give("q", "2"), give("behind", "3"), give("behind", "4")}
	more := room[:2]
	create(t, v, 1, "n")
	saved(t, v, more...)
	create(t, v, 1, "m")
	if e := v.Save(append(more, give("", ""))[:3:3]...); e != api.ErrArg {
		t.Errorf("Save: %d", e)
	}
	if room[0] != give("r", "1") || room[1] != give("q", "2") || room[3] != give("behind", "4") {
		t.Errorf("%v", room)
	}
	v.FS().Met()
	l := v.Dirty()
	for range 3 {
		l = append(l, 9)
	}
	isDirty(t, v)
}

// P15.2: hand-made nodes that can't lie on a disk are refused, others go round.
func TestLoadedNodes(t *testing.T) {
	d, v := formatted(t, 130)
	change := func(id int) { did(t, v.FS().SetAttr(super, id, attr.Set{HasMode: true, Mode: 0700}, nil)) }
	then := stateOf(v.FS())
	for _, n := range []core.Node{
		{Attr: attr.Attr{ID: 9, Kind: attr.Reg, Size: 8193}}, {Attr: attr.Attr{ID: 9, Kind: attr.Reg, Size: -1}},
		{Attr: attr.Attr{ID: 9, Kind: attr.Lnk}, Data: sized(257)}, {Attr: attr.Attr{ID: 9, Kind: attr.Reg}, Verf: sized(65)},
	} {
		is(t, "Save", func() api.Errno { v.FS().Load(n); change(9); return v.Save() }(), api.ErrArg)
		same(t, "Save", stateOf(v.FS()), then)
	}
	for id, n := range map[int]core.Node{
		3: {Attr: attr.Attr{Kind: attr.Dir, Links: -4}, Parent: 77}, 4: {Attr: attr.Attr{Kind: attr.Sock, Major: -1}}, 5: {Attr: attr.Attr{Kind: 99}},
		6: {Attr: attr.Attr{Kind: attr.Reg, Size: 8192, Used: 3}, Data: sized(8192)[:300] + noughts(7892)}, 7: {Attr: attr.Attr{Kind: attr.Lnk, Size: 3}, Data: sized(256)},
	} {
		n.ID = id
		v.FS().Load(n)
		change(id)
	}
	create(t, v, 1, "x")
	saved(t, v)
	want := allPairs(v.FS())
	k := "i" + eight(3) // without Names it is an empty directory
	want[k] = want[k][:8*18] + eight(3) + want[k][8*19:]
	differ(t, "Save", lies(t, d), want)
	got := reopened(t, d)
	if ids := got.FS().IDs(); len(ids) != 7 {
		t.Errorf("%v", ids)
	}
	differ(t, "Open", maps.Clone(allPairs(got.FS())), want)
}
