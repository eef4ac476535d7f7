package vol_test

import (
	"math/rand"
	"slices"
	"strconv"
	"strings"
	"testing"

	"coracle/api"
	"coracle/attr"
	"coracle/sector"
	"coracle/vol"
)

// outcome is what may be found behind a loss of power in a call.
type outcome struct {
	ahead, behind pairs // what was kept ahead of the call, and what is behind it
	then          pairs // what would be kept, if all were
	dirty         []int // ahead of the call
}

// dirtyPiece: is it the key of a piece of a dirty file?
func (o outcome) dirtyPiece(key string) bool {
	return key[0] == 'd' && slices.Contains(o.dirty, number(key[1:9]))
}

// is: is it as these pairs tell, but for pieces of dirty files, which may be as they were then?
func (o outcome) is(got, p pairs) bool {
	for _, c := range p.lacks(got) {
		if !o.dirtyPiece(c.Key) || got[c.Key] != o.then[c.Key] {
			return false
		}
	}
	return true
}

func (o outcome) may(got pairs) bool { return o.is(got, o.ahead) || o.is(got, o.behind) }

// outcomeOf: what may be found, if the power goes off in a call, which hasn't been asked; by another Vol that has the same behind it.
func outcomeOf(t *testing.T, make func() (*sector.Disk, *vol.Vol), call func(v *vol.Vol) api.Errno) outcome {
	t.Helper()
	d, v := make()
	o := outcome{ahead: lies(t, d), dirty: v.Dirty()}
	is(t, "call", call(v), api.OK)
	o.behind = lies(t, d)
	o.then = allPairs(v.FS())
	return o
}

// deaf: a Vol in which the power went off keeps nothing any more, though the power is on again.
func deaf(t *testing.T, d *sector.Disk, v *vol.Vol) {
	t.Helper()
	p := lies(t, d)
	dirty, f := v.Dirty(), v.FS()
	for range 2 {
		is(t, "Save behind a loss of power", v.Save(), api.ErrPower)
		is(t, "Save behind a loss of power", v.Save(take("none")), api.ErrPower)
		for _, id := range append(v.Dirty(), 1, 99) {
			is(t, "Commit behind a loss of power", v.Commit(id), api.ErrPower)
		}
	}
	did(t, v.FS().SetAttr(super, 1, attr.Set{HasMode: true, Mode: 0777}, nil))
	is(t, "Save behind a loss of power", v.Save(), api.ErrPower)
	is(t, "Save behind a loss of power", v.Save(), api.ErrPower)
	isDirty(t, v, dirty...)
	if v.FS() != f {
		t.Error("the file system is another one")
	}
	differ(t, "behind a loss of power", lies(t, d), p)
}

// everyLoss: the power goes off in each write and flush of a call, whatever is kept.
func everyLoss(t *testing.T, least int, make func() (*sector.Disk, *vol.Vol), call func(v *vol.Vol) api.Errno) {
	t.Helper()
	o := outcomeOf(t, make, call)
	r := rand.New(rand.NewSource(15))
	steps := 0
	for n, over := 1, false; !over && !t.Failed(); n++ {
		for _, keep := range []int{0, -1, 1<<60 - 2, r.Int()} {
			d, v := make()
			d.Cut(n, keep)
			e := call(v)
			if over = e == api.OK; over {
				break
			}
			steps++
			is(t, "call", e, api.ErrPower)
			isDirty(t, v, o.dirty...)
			d.On()
			deaf(t, d, v)
			if got := lies(t, d); !o.may(got) {
				differ(t, "ahead", got, o.ahead)
				differ(t, "behind", got, o.behind)
			}
			v = reopened(t, d)
			create(t, v, 1, "new")
			saved(t, v)
			same(t, "behind it", stateOf(reopened(t, d).FS()), stateOf(v.FS()))
		}
	}
	if steps < least {
		t.Errorf("the power went off %d times", steps)
	}
}

// P15.4: the power goes off in a Save.
func TestLossInSave(t *testing.T) {
	for name, change := range map[string]func(t *testing.T, v *vol.Vol){
		"Create": func(t *testing.T, v *vol.Vol) { create(t, v, 2, "x") },
		"Mkdir":  func(t *testing.T, v *vol.Vol) { mkdir(t, v, 1, "x") },
		"Write":  func(t *testing.T, v *vol.Vol) { write(t, v, 3, 100, sized(512)) },
		"Rename": func(t *testing.T, v *vol.Vol) { did(t, v.FS().Rename(super, 2, "n", 1, "e")) },
		"Remove": func(t *testing.T, v *vol.Vol) { did(t, v.FS().Remove(super, 1, "e")) },
		"Rmdir":  func(t *testing.T, v *vol.Vol) { did(t, v.FS().Rmdir(super, 2, "d")) },
		"several": func(t *testing.T, v *vol.Vol) {
			create(t, v, 2, "x")
			did(t, v.FS().Remove(super, 1, "e"))
			did(t, v.FS().Link(super, 3, 2, "y"))
		},
	} {
		everyLoss(t, 8, func() (*sector.Disk, *vol.Vol) { return grove(t) }, func(v *vol.Vol) api.Errno {
			change(t, v)
			return v.Save(give("r", name), take("t"))
		})
	}
}

// P15.4: the power goes off in a Commit or a Save by several Commits of the store.
func TestLossOfManyPieces(t *testing.T) {
	changed := func() (*sector.Disk, *vol.Vol) {
		d, v, n := big(t, 258)
		is(t, "Commit", v.Commit(n), api.OK)
		for i := range 16 {
			write(t, v, n, 512*i, strings.Repeat(strconv.Itoa(i%10), 512))
			v.Keep()
		}
		size(t, v, n, 7000)
		v.Keep()
		return d, v
	}
	grown := func() (*sector.Disk, *vol.Vol) {
		d, v, _ := big(t, 258)
		return d, v
	}
	for _, make := range []func() (*sector.Disk, *vol.Vol){changed, grown} {
		everyLoss(t, 150, make, func(v *vol.Vol) api.Errno { return v.Commit(2) })
		everyLoss(t, 150, make, func(v *vol.Vol) api.Errno {
			did(t, v.FS().Rename(super, 1, "n", 1, "m"))
			return v.Save(give("r", "1"))
		})
		everyLoss(t, 8, make, func(v *vol.Vol) api.Errno {
			did(t, v.FS().Remove(super, 1, "n"))
			return v.Save()
		})
		everyLoss(t, 8, make, func(v *vol.Vol) api.Errno { create(t, v, 1, "other"); return v.Save() })
	}
}

// P15.4: the power goes off in a Clean and in an Open.
func TestLossInCleanAndOpen(t *testing.T) {
	full := func() (*sector.Disk, *vol.Vol) {
		d, v, n := big(t, 258)
		is(t, "Commit", v.Commit(n), api.OK)
		write(t, v, n, 0, "dirty")
		v.Keep()
		return d, v
	}
	everyLoss(t, 8, full, func(v *vol.Vol) api.Errno { return v.Clean() })
	for n := 1; n <= 2; n++ {
		for _, keep := range []int{0, -1} {
			d, _ := full()
			p := lies(t, d)
			for range 3 {
				d.Cut(n, keep)
				if v, more, e := vol.Open(d); v != nil || more != nil || e != api.ErrPower {
					t.Errorf("Open: %v %d", more, e)
				}
				d.On()
			}
			differ(t, "Open", lies(t, d), p)
			reopened(t, d)
		}
	}
}

// P15.4: the power goes off between calls: dirty files are as they were kept last, all else is as it is.
func TestLossBetweenCalls(t *testing.T) {
	for _, keep := range []int{0, -1, 5} {
		d, v := grove(t)
		then := stateOf(v.FS())
		write(t, v, 3, 0, "dirty")
		v.Keep()
		size(t, v, 7, 0)
		v.Keep()
		d.Crash(keep)
		v = reopened(t, d)
		same(t, "behind it", stateOf(v.FS()), then)
		write(t, v, 3, 0, "dirty")
		v.Keep()
		did(t, v.FS().Remove(super, 1, "e"))
		saved(t, v)
		now := stateOf(v.FS())
		d.Crash(keep)
		v = reopened(t, d)
		now.files[3] = then.files[3]
		same(t, "behind it", stateOf(v.FS()), now)
	}
}

// P15.2: a Save that would be refused otherwise is so behind a loss of power, too; and the power may be off already.
func TestPowerOff(t *testing.T) {
	d, v := grove(t)
	write(t, v, 3, 0, "dirty")
	v.Keep()
	p, then := lies(t, d), stateOf(v.FS())
	d.Cut(1, 0)
	d.Flush()
	saved(t, v) // of nothing
	create(t, v, 1, "x")
	is(t, "Save", v.Save(), api.ErrPower)
	is(t, "Commit", v.Commit(3), api.ErrPower)
	is(t, "Clean", v.Clean(), api.OK) // there is one segment
	isDirty(t, v, 3)
	d.On()
	deaf(t, d, v)
	differ(t, "without power", lies(t, d), p)
	create(t, v, 1, "y")
	is(t, "Save", v.Save(give("", "")), api.ErrArg)
	same(t, "Save", stateOf(v.FS()), then)
	isDirty(t, v, 3)
	deaf(t, d, v)
	v = reopened(t, d)
	create(t, v, 1, "x")
	saved(t, v)

	d, v, n := big(t, 258)
	is(t, "Commit", v.Commit(n), api.OK)
	d.Cut(1, 0)
	is(t, "Clean", v.Clean(), api.ErrPower)
	d.On()
	deaf(t, d, v)
	is(t, "Clean", v.Clean(), api.ErrPower)
}

// P15.5: a Clean is layer 7's, and changes nothing that is told.
func TestClean(t *testing.T) {
	d, v := formatted(t, 130)
	is(t, "Clean of one segment", v.Clean(), api.OK)
	n := create(t, v, 1, "n")
	saved(t, v)
	cleaned := 0
	for i := range 60 {
		write(t, v, n, 0, sized(512)[i:])
		saved(t, v, give("r", strconv.Itoa(i)))
		write(t, v, n, 600, strconv.Itoa(i))
		v.Keep()
		now, p := stateOf(v.FS()), lies(t, d)
		writes, _ := d.Counts()
		is(t, "Clean", v.Clean(), api.OK)
		if w, _ := d.Counts(); w > writes {
			cleaned++
		}
		same(t, "Clean", stateOf(v.FS()), now)
		differ(t, "Clean", lies(t, d), p)
		isDirty(t, v, n)
	}
	if cleaned < 10 {
		t.Errorf("%d segments are cleaned", cleaned)
	}
}
