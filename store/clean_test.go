package store_test

import (
	"cmp"
	"math/rand"
	"slices"
	"strconv"
	"testing"

	"coracle/api"
	"coracle/sector"
	"coracle/seglog"
	"coracle/store"
)

// spot is where a key's newest change stands, and where pairs of it stand.
type spot struct {
	change api.Change
	home   int
	stands map[int]bool
}

// spots: the spots of all keys of these records.
func spots(t *testing.T, records []seglog.Record) map[string]spot {
	t.Helper()
	all := map[string]spot{}
	for _, r := range records {
		for _, c := range changesOf(t, r.Body) {
			stands := all[c.Key].stands
			if stands == nil {
				stands = map[int]bool{}
			}
			if !c.Gone {
				stands[r.Segment] = true
			}
			all[c.Key] = spot{change: c, home: r.Segment, stands: stands}
		}
	}
	return all
}

// wanted: what a segment has that must be appended anew: what lives in it, and what is Gone by it, but stands in other segments still.
func wanted(t *testing.T, records []seglog.Record, id int) []api.Change {
	t.Helper()
	var changes []api.Change
	for _, s := range spots(t, records) {
		elsewhere := len(s.stands)
		if s.stands[id] {
			elsewhere--
		}
		if s.home == id && (!s.change.Gone || elsewhere > 0) {
			changes = append(changes, s.change)
		}
	}
	return byKey(changes)
}

func byKey(changes []api.Change) []api.Change {
	slices.SortFunc(changes, func(a, b api.Change) int { return cmp.Compare(a.Key, b.Key) })
	return changes
}

// cleans: a Clean, held against what lies on the disk ahead of it and behind it; the segment that was cleaned.
func cleans(t *testing.T, d *sector.Disk, s *store.Store) int {
	t.Helper()
	p := held(s)
	l, was := lies(t, d)
	segments := l.Segments()
	id, e := s.Clean()
	holds(t, s, p)
	if len(segments) == 1 {
		if id != -1 || e != api.OK {
			t.Errorf("Clean of one segment: %d %d", id, e)
		}
		return id
	}
	at := slices.IndexFunc(segments, func(s seglog.Segment) bool { return s.ID == id })
	if e != api.OK || at < 0 || at == len(segments)-1 {
		t.Fatalf("Clean: %d %d of %v", id, e, segments)
	}
	want := wanted(t, was, id)
	l, now := lies(t, d)
	if slices.ContainsFunc(l.Segments(), func(s seglog.Segment) bool { return s.ID == id }) {
		t.Errorf("segment %d isn't dropped", id)
	}
	was = slices.DeleteFunc(was, func(r seglog.Record) bool { return r.Segment == id })
	if len(now) < len(was) || !slices.Equal(now[:len(was)], was) {
		t.Fatalf("records of other segments than %d are changed", id)
	}
	var anew []api.Change
	for _, r := range now[len(was):] {
		anew = append(anew, changesOf(t, r.Body)...)
	}
	if !slices.Equal(byKey(anew), want) {
		t.Errorf("of segment %d %d changes are appended anew, not %d", id, len(anew), len(want))
	}
	return id
}

// P7.4: one segment isn't cleaned, with power or without.
func TestCleanOne(t *testing.T) {
	d, s := opened(t, 130)
	commits(t, s, pairs{}, give("a", "1"))
	same(t, d, s, func() {
		cleans(t, d, s)
		d.Cut(1, 0)
		d.Flush()
		if id, e := s.Clean(); id != -1 || e != api.OK {
			t.Errorf("Clean: %d %d", id, e)
		}
	})
}

// full: changes that fill a segment, a key of its own among them.
func full(i int, more ...api.Change) []api.Change {
	room := longest - len(bodyOf(append(slices.Clone(more), give("own"+strconv.Itoa(i), "x"), give("big", sized(1800)), give("fill", ""))...))
	return append(more, give("own"+strconv.Itoa(i), "x"), give("big", sized(1800)), give("fill", sized(room)))
}

// P7.4: what is Gone stays so, whichever segment is cleaned first.
func TestCleanGone(t *testing.T) {
	d, s := opened(t, 130)
	p := commits(t, s, pairs{}, full(0, give("a", "1"), give("b", "1"))...)
	p = commits(t, s, p, full(1, give("c", "1"), take("a"))...)
	p = commits(t, s, p, full(2, take("b"), take("c"), take("none"))...)
	p = commits(t, s, p, full(3, give("c", "2"))...)
	p = commits(t, s, p, full(4, take("c"))...)
	for range 40 {
		cleans(t, d, s)
		holds(t, reopened(t, diskOf(t, imageOf(t, d))), p)
	}
	if _, records := lies(t, d); len(spots(t, records)) != len(p) {
		t.Errorf("%d keys are left of %d", len(spots(t, records)), len(p))
	}
}

// P7.4: a segment in which nothing is wanted is dropped, and nothing is appended.
func TestCleanDead(t *testing.T) {
	d, s := opened(t, 130)
	for range 4 {
		commits(t, s, pairs{}, give("a", sized(2000)), give("b", sized(1684)))
	}
	for left := 3; left >= 0; left-- {
		w, f := d.Counts()
		cleans(t, d, s)
		l, records := lies(t, d)
		if w2, f2 := d.Counts(); left > 0 && (w2 != w+1 || f2 != f+1) {
			t.Errorf("%d writes, %d flushes for a drop", w2-w, f2-f)
		}
		if len(records) != max(left, 1) || len(l.Segments()) != max(left, 1) {
			t.Errorf("%d records, not %d", len(records), left)
		}
	}
}

// P7.4: Cleans by chance among Commits, at all sizes.
func TestCleanByChance(t *testing.T) {
	r := rand.New(rand.NewSource(74))
	cleaned := map[int]bool{}
	for range 25 {
		d, s := opened(t, 130+16*r.Intn(4))
		p := pairs{}
		for range 60 {
			changes := draw(r, 1+r.Intn(6), 40)
			if e := s.Commit(changes...); e == api.OK {
				p = p.behind(changes...)
			}
			for range r.Intn(4) {
				cleaned[cleans(t, d, s)] = true
			}
			holds(t, s, p)
			if t.Failed() {
				return
			}
		}
		holds(t, reopened(t, d), p)
	}
	if len(cleaned) < 6 {
		t.Errorf("only %v were cleaned", cleaned)
	}
}

// churn is a way to fill a store and change it ever again.
type churn func(r *rand.Rand, i int) []api.Change

// key: a key of so many bytes, one of many.
func key(r *rand.Rand, many, size int) string {
	k := strconv.Itoa(r.Intn(many))
	return k + sized(max(size-len(k), 0))
}

func churns() map[string]churn {
	return map[string]churn{
		"one key, a body that fills a segment": func(r *rand.Rand, i int) []api.Change {
			return full(0, give("k", strconv.Itoa(i)))
		},
		"a key of its own in each segment": func(r *rand.Rand, i int) []api.Change {
			return full(i % 150)
		},
		"great values": func(r *rand.Rand, i int) []api.Change {
			return []api.Change{give(key(r, 5, 1), sized(1863+r.Intn(138)))}
		},
		"small pairs, mostly taken": func(r *rand.Rand, i int) []api.Change {
			var l []api.Change
			for range 1 + r.Intn(180) {
				l = append(l, take(key(r, 500, 1)))
				if r.Intn(2+i/50%2) == 0 {
					l[len(l)-1] = give(l[len(l)-1].Key, "")
				}
			}
			return l
		},
		"rows of long keys, given and taken": func(r *rand.Rand, i int) []api.Change {
			var l []api.Change
			for j := range 38 {
				k := strconv.Itoa(i/2*38+j) + sized(76)
				l = append(l, give(k, ""))
				if i%2 == 1 {
					l[j] = take(k)
				}
			}
			return l
		},
		"many sizes": func(r *rand.Rand, i int) []api.Change {
			return draw(r, 1+r.Intn(5), 60)
		},
	}
}

// P7.3: there is always a segment for a Commit, also where the store is full and what is Gone fills segments.
func TestAlwaysRoom(t *testing.T) {
	for name, changes := range churns() {
		for _, sectors := range []int{130, 146, 258} {
			r := rand.New(rand.NewSource(int64(sectors)))
			d, s := opened(t, sectors)
			p := pairs{}
			_, room := s.Bytes()
			dropped := false
			for i := range 500 {
				l := changes(r, i)
				behind := p.behind(l...)
				want := api.OK
				if len(bodyOf(l...)) > longest {
					want = api.ErrLong
				} else if n := behind.bytes(); n > room && n > p.bytes() {
					want = api.ErrFull
				} else {
					p = behind
				}
				if e := s.Commit(l...); e != want {
					t.Fatalf("%s on %d sectors, Commit %d: %d, not %d", name, sectors, i, e, want)
				}
				if i%25 == 0 {
					log, records := lies(t, d)
					if log.Free() < 1 {
						t.Errorf("%s on %d sectors: no segment is free", name, sectors)
					}
					dropped = dropped || len(records) > 0 && records[0].Seq > 0
				}
			}
			holds(t, s, p)
			holds(t, reopened(t, d), p)
			if t.Failed() || !dropped {
				t.Fatalf("%s on %d sectors", name, sectors)
			}
		}
	}
}

// P7.3: a store in which as much lives as there is room, in the pairs that fit worst.
func TestFullOfBadFits(t *testing.T) {
	for _, size := range []int{1844, 1900, 1220, 2000} {
		d, s := opened(t, 130)
		p := pairs{}
		for i := 0; ; i++ {
			c := give(strconv.Itoa(i), sized(size))
			if p.behind(c).bytes() > 8*roomy {
				break
			}
			p = commits(t, s, p, c)
		}
		r := rand.New(rand.NewSource(int64(size)))
		for i := range 300 {
			p = commits(t, s, p, give(strconv.Itoa(r.Intn(len(p))), sized(size-i%3)))
			if r.Intn(3) == 0 {
				cleans(t, d, s)
			}
		}
		holds(t, s, p)
		holds(t, reopened(t, d), p)
	}
}

// P7.3: a disk on which another program left no segment free: as long as one can be cleaned, it is.
func TestNoneFree(t *testing.T) {
	var bodies []string
	p := pairs{}
	for i := range 8 {
		l := []api.Change{give("a", sized(2000)), give("b", sized(1684))}
		if i == 7 {
			l = []api.Change{give("c", "1")}
		}
		bodies = append(bodies, bodyOf(l...))
		p = p.behind(l...)
	}
	for _, size := range []int{1, 2000} {
		d := laid(t, 130, bodies...)
		s, q := reopened(t, d), p
		for range 20 {
			q = commits(t, s, q, give("a", sized(size)), give("b", sized(1600)))
		}
		holds(t, s, q)
		holds(t, reopened(t, d), q)
	}
}

// P7.3, P7.4: none is free, and what the oldest segment has doesn't fit into the last one: another one, of which nothing is wanted, is dropped first.
func TestNoneFreeNorFits(t *testing.T) {
	for _, c := range []struct{ value, left int }{{1, 0}, {208, 1}, {212, 1}, {440, 2}} { // a pair of 228 bytes and the end of a body would go into one sector
		var bodies []string
		p := pairs{}
		for i := range 8 {
			l := []api.Change{give("a", sized(2000)), give("b", sized(1684))}
			switch i {
			case 0:
				l = []api.Change{give("old", sized(c.value)), give("a", sized(2000))}
			case 7:
				l = []api.Change{give("a", sized(2000)), give("b", sized(1684-c.left*236))}
			}
			bodies = append(bodies, bodyOf(l...))
			p = p.behind(l...)
		}
		for i := range 7 { // so that each body has a segment of its own
			bodies[i] = bodyOf(append(changesOf(t, bodies[i]), slices.Repeat([]api.Change{take("none")}, (longest-len(bodies[i]))/16)...)...)
		}
		d := laid(t, 130, bodies...)
		if l, _ := lies(t, d); l.Free() != 0 || l.Fits(233*c.left+1) || c.left > 0 && !l.Fits(233*c.left) {
			t.Fatalf("the test's disk: %d free, %v", l.Free(), l.Segments())
		}
		s := reopened(t, d)
		cleans(t, d, s)
		for i := range 20 {
			p = commits(t, s, p, full(i%5, take("a"))...)
		}
		holds(t, s, p)
		holds(t, reopened(t, d), p)
	}
}

// P7.3: a disk that another program has filled with what lives, but for one segment: cleaning brings nothing, and what is taken can be taken all the same.
func TestNearlyAllLive(t *testing.T) {
	var bodies []string
	p := pairs{}
	for i := range 7 {
		l := []api.Change{give("a"+strconv.Itoa(i), sized(2000)), give("b"+strconv.Itoa(i), sized(1684))}
		bodies = append(bodies, bodyOf(l...))
		p = p.behind(l...)
	}
	d := laid(t, 130, bodies...)
	s := reopened(t, d)
	for i := range 7 {
		p = commits(t, s, p, take("a"+strconv.Itoa(i)))
		p = commits(t, s, p, give("b"+strconv.Itoa(i), "x"))
		holds(t, s, p)
		holds(t, reopened(t, diskOf(t, imageOf(t, d))), p)
	}
	for i := range 20 {
		p = commits(t, s, p, full(i%5)...)
	}
	holds(t, reopened(t, d), p)
}

// P7.3: a disk that another program has filled with what lives: nothing can be cleaned, and nothing is lost or hangs. What fits into the last segment is committed all the same.
func TestAllFullAndLive(t *testing.T) {
	for _, left := range []int{0, 1} {
		var bodies []string
		p := pairs{}
		for i := range 8 {
			l := []api.Change{give("a"+strconv.Itoa(i), sized(2000)), give("b"+strconv.Itoa(i), sized(1684-left*236))}
			bodies = append(bodies, bodyOf(l...))
			p = p.behind(l...)
		}
		d := laid(t, 130, bodies...)
		s := reopened(t, d)
		same(t, d, s, func() {
			if id, e := s.Clean(); id != -1 || e != api.ErrFull {
				t.Errorf("Clean: %d %d", id, e)
			}
		})
		if left > 0 {
			p = commits(t, s, p, take("a0"))
		}
		same(t, d, s, func() {
			if e := s.Commit(take("a1")); e != api.ErrFull {
				t.Errorf("Commit: %d", e)
			}
		})
		holds(t, s, p)
		holds(t, reopened(t, d), p)
	}
}
