package store_test

import (
	"maps"
	"math/rand"
	"strconv"
	"testing"

	"coracle/api"
	"coracle/sector"
	"coracle/store"
)

// deaf: a store in which the power went off makes no change any more, though the power is on again; what it tells is as it was.
func deaf(t *testing.T, d *sector.Disk, s *store.Store) {
	t.Helper()
	l, _ := lies(t, d)
	few := len(l.Segments()) <= 2 // the store may know of one, where the last call was done all the same
	p := held(s)
	same(t, d, s, func() {
		for range 2 {
			for _, l := range [][]api.Change{{give("a", "")}, {take("a")}, {take("none")}, full(0)} {
				want := api.ErrPower
				if p.behind(l...).bytes() > max(8*roomy, p.bytes()) {
					want = api.ErrFull // which is named first
				}
				if e := s.Commit(l...); e != want {
					t.Errorf("Commit behind a loss of power: %d, not %d", e, want)
				}
			}
			if id, e := s.Clean(); id != -1 || e != api.ErrPower && !(few && e == api.OK) {
				t.Errorf("Clean behind a loss of power: %d %d", id, e)
			}
		}
	})
}

// crowded: a disk with one free segment, in whose other ones a little lives, and what is Gone is needed; its pairs.
func crowded(t *testing.T) ([]string, pairs) {
	t.Helper()
	d, s := opened(t, 130)
	p := pairs{}
	for i := range 7 {
		l := []api.Change{give("a"+strconv.Itoa(i), "1")}
		if i > 0 {
			l = append(l, take("a"+strconv.Itoa(i-1)))
		}
		p = commits(t, s, p, full(i, l...)...)
	}
	if l, _ := lies(t, d); l.Free() != 1 || l.Fits(0) {
		t.Fatalf("%d segments are free", l.Free())
	}
	return imageOf(t, d), p
}

// keeps: which of the queue last.
func keeps(r *rand.Rand) []int {
	return []int{0, -1, 1, 2, 0x5555555555555555, 1<<60 - 2, r.Int()}
}

// lost: behind a loss of power in a call, the store is as it was ahead of it or behind it; the store that goes on, and its pairs.
func lost(t *testing.T, d *sector.Disk, old *store.Store, ahead, behind pairs) (*store.Store, pairs) {
	t.Helper()
	d.On()
	deaf(t, d, old)
	holds(t, old, ahead)
	s := reopened(t, d)
	p := held(s)
	if !maps.Equal(p, ahead) && !maps.Equal(p, behind) {
		t.Errorf("%d pairs, neither the %d ahead nor the %d behind", len(p), len(ahead), len(behind))
	}
	holds(t, s, p)
	return s, p
}

// goesOn: full segments are committed, and cleaned.
func goesOn(t *testing.T, d *sector.Disk, s *store.Store, p pairs) {
	t.Helper()
	for i := range 10 {
		p = commits(t, s, p, full(i%3+4)...)
	}
	cleans(t, d, s)
	holds(t, s, p)
	holds(t, reopened(t, d), p)
}

// P7.5: the power goes off in each write and flush of Commits that clean, and of Cleans, whatever is kept; and once more behind it.
func TestEveryLoss(t *testing.T) {
	r := rand.New(rand.NewSource(75))
	image, start := crowded(t)
	calls := []func(s *store.Store) api.Errno{
		func(s *store.Store) api.Errno { return s.Commit(full(7, take("a6"))...) },
		func(s *store.Store) api.Errno { _, e := s.Clean(); return e },
		func(s *store.Store) api.Errno { return s.Commit(give("b", "2"), take("own1")) },
		func(s *store.Store) api.Errno { return s.Commit(full(8, take("own2"), take("own3"))...) },
	}
	makes := [][]api.Change{full(7, take("a6")), nil, {give("b", "2"), take("own1")}, full(8, take("own2"), take("own3"))}
	losses := 0
	for n, over := 1, false; !over; n++ {
		for _, keep := range keeps(r) {
			over = true
			d := diskOf(t, image)
			s, p := reopened(t, d), start
			d.Cut(n, keep)
			for i, call := range calls {
				behind := p.behind(makes[i]...)
				e := call(s)
				if e == api.OK {
					p = behind
					holds(t, s, p)
					continue
				}
				if e != api.ErrPower {
					t.Fatalf("call %d: %d", i, e)
				}
				over = false
				losses++
				s, p = lost(t, d, s, p, behind)
				d.Cut(1+n%7, keep)
				behind = p.behind(makes[i]...)
				if e := call(s); e == api.ErrPower {
					s, p = lost(t, d, s, p, behind)
				} else if p = behind; e != api.OK {
					t.Fatalf("call %d, again: %d", i, e)
				}
				d.On()
				goesOn(t, d, s, p)
				break
			}
			if t.Failed() {
				t.Fatalf("the power went off in step %d, with %#x kept", n, keep)
			}
		}
	}
	if losses < 200 {
		t.Errorf("the power went off %d times", losses)
	}
}

// P7.3, P7.5: the power goes off, up to three times, when a Clean has just taken the last free segment: a body that would fill it must not.
func TestLossOfLastSegment(t *testing.T) {
	image, start := crowded(t)
	for n := range 6 {
		for _, keep := range []int{0, -1} {
			for times := range 3 {
				for _, first := range [][]api.Change{full(9), {give("x", "1")}, {take("own1")}} {
					d := diskOf(t, image)
					s, p := reopened(t, d), start
					for range times + 1 {
						d.Cut(n+1, keep)
						id, e := s.Clean()
						d.On()
						if e == api.OK {
							break
						}
						if id != -1 || e != api.ErrPower {
							t.Fatalf("Clean: %d %d", id, e)
						}
						s, p = lost(t, d, s, p, p)
					}
					p = commits(t, s, p, first...)
					goesOn(t, d, s, p)
					if t.Failed() {
						t.Fatalf("the power went off in step %d, with %#x kept", n+1, keep)
					}
				}
			}
		}
	}
}

// P7.5: the power goes off in an Open: nothing is lost, however often.
func TestLossInOpen(t *testing.T) {
	image, p := crowded(t)
	for _, keep := range []int{0, 1, -1} {
		for n := 1; n <= 2; n++ {
			d := diskOf(t, image)
			for range 3 {
				d.Cut(n, keep)
				if s, e := store.Open(d); s != nil || e != api.ErrPower {
					t.Errorf("Open: %d", e)
				}
				d.On()
			}
			s := reopened(t, d)
			holds(t, s, p)
			goesOn(t, d, s, p)
		}
	}
}

// P7.3, P7.4: the power is off already.
func TestPowerOff(t *testing.T) {
	image, p := crowded(t)
	d := diskOf(t, image)
	s := reopened(t, d)
	d.Cut(1, 0)
	d.Flush()
	for _, l := range [][]api.Change{{give("a", "")}, full(0), {take("a")}} {
		if e := s.Commit(l...); e != api.ErrPower {
			t.Errorf("Commit: %d", e)
		}
	}
	if id, e := s.Clean(); id != -1 || e != api.ErrPower {
		t.Errorf("Clean: %d %d", id, e)
	}
	holds(t, s, p)
	d.On()
	deaf(t, d, s)
	holds(t, s, p)
	goesOn(t, d, reopened(t, d), p)
}

// The chapter's example.
func TestExample(t *testing.T) {
	for _, keep := range []int{0, -1} {
		d, s := opened(t, 130)
		p := commits(t, s, pairs{}, give("a", "1"), give("b", "2"))
		commits(t, s, p, take("a"))
		d.Crash(keep)
		holds(t, reopened(t, d), pairs{"b": "2"})
	}
}

// P7.5: stores by chance, with the power going off ever again, in Opens too.
func TestLossByChance(t *testing.T) {
	losses := 0
	for name, changes := range churns() {
		r := rand.New(rand.NewSource(76))
		for range 4 {
			d, s := opened(t, 130)
			p := pairs{}
			for i := range 250 {
				if r.Intn(5) == 0 {
					d.Cut(1+r.Intn(24), r.Int()&r.Int()|r.Intn(4))
				}
				l := changes(r, i)
				behind, e := p.behind(l...), s.Commit(l...)
				if r.Intn(8) == 0 && e != api.ErrPower {
					if e == api.OK {
						p = behind
					}
					behind = p
					_, e = s.Clean()
				}
				switch e {
				case api.OK:
					p = behind
				case api.ErrPower:
					losses++
					s, p = lost(t, d, s, p, behind)
				case api.ErrFull, api.ErrLong:
					if n := behind.bytes(); (n <= 8*roomy || n <= p.bytes()) && len(bodyOf(l...)) <= longest {
						t.Errorf("Commit %d: %d", i, e)
					}
				default:
					t.Errorf("Commit %d: %d", i, e)
				}
				if t.Failed() {
					t.Fatal(name)
				}
			}
			d.On()
			holds(t, s, p)
			holds(t, reopened(t, d), p)
		}
	}
	if losses < 400 {
		t.Errorf("the power went off %d times", losses)
	}
}
