package store

import (
	"math/rand"
	"strconv"
	"strings"
	"testing"

	"coracle/api"
	"coracle/score"
	"coracle/sector"
)

// tombs: a store of a small disk that is as full as it may be, with much that is Gone in its segments, one of which is free.
func tombs(t *testing.T, r *rand.Rand, size int) *Store {
	t.Helper()
	d, _ := sector.New(minSectors)
	if e := Format(d); e != api.OK {
		t.Fatalf("Format: %d", e)
	}
	s, e := Open(d)
	for e == api.OK && s.leavesOne(0) {
		var changes []api.Change
		for range 1 + r.Intn(40) {
			c := api.Change{Key: strconv.Itoa(r.Intn(400)), Gone: r.Intn(3) == 0}
			if !c.Gone {
				c.Value = strings.Repeat("v", r.Intn(size))
			}
			changes = append(changes, c)
		}
		body, long := bodyOf(changes)
		if long != api.OK || s.liveBehind(changes) > s.room() {
			continue
		}
		if !s.leavesOne(len(body)) {
			break
		}
		e = s.put(changes, body)
	}
	if e != api.OK {
		t.Fatalf("the store: %d", e)
	}
	return s
}

// P7.3: the oldest segments carry on nothing that is Gone, and once all of them are cleaned, three are free at least: so a Commit that cleans them finds its segment, whatever was cleaned before.
func TestOldestIsEnough(t *testing.T) {
	r := rand.New(rand.NewSource(731))
	for range 60 {
		s := tombs(t, r, 1+r.Intn(600))
		for n := r.Intn(8); n > 0 && len(s.log.Segments()) > 1; n-- { // some of what is Gone is carried on
			if _, e := s.clean(func(l []score.Segment) int { return r.Intn(len(l)) }); e != api.OK {
				t.Fatalf("clean: %d", e)
			}
		}
		pairs := s.Range("", "")
		for range len(s.log.Segments()) {
			if len(s.log.Segments()) == 1 {
				break
			}
			first := s.log.Segments()[0].ID
			for key, k := range s.keys {
				if k.home == first && k.gone && k.wanted() {
					t.Fatalf("%q is Gone by the oldest segment, and stands in others", key)
				}
			}
			if id, e := s.clean(oldest); id != first || e != api.OK {
				t.Fatalf("clean: %d %d, not %d", id, e, first)
			}
		}
		if s.log.Free() < 3 {
			t.Fatalf("%d are free behind all", s.log.Free())
		}
		if len(s.Range("", "")) != len(pairs) {
			t.Fatal("cleaning changed the pairs")
		}
	}
	if oldest(nil) != -1 {
		t.Error("the oldest of none")
	}
}

// P7.4: what is known of keys is no more than the segments hold.
func TestKnownOfKeys(t *testing.T) {
	s := tombs(t, rand.New(rand.NewSource(741)), 30)
	for range 3 * s.segments() {
		if _, e := s.clean(oldest); e != api.OK {
			break // one segment is left
		}
	}
	for key, k := range s.keys {
		if k.gone && k.stands == 0 {
			t.Errorf("%q is gone and stands nowhere", key)
		}
	}
	if n := len(s.Range("", "")); len(s.keys) != n {
		t.Errorf("%d keys are known, %d live", len(s.keys), n)
	}
}
