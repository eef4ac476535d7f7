package store

import (
	"coracle/api"
	"coracle/score"
)

const endSize = 4 // bytes of a body beside those of its changes

// Clean: cleans a segment.
func (s *Store) Clean() (int, api.Errno) {
	if s == nil {
		return -1, api.ErrArg
	}
	if len(s.log.Segments()) <= 1 {
		return -1, api.OK
	}
	return s.clean(score.Pick)
}

// makeRoom: segments are cleaned, till a body of so many bytes can be appended and leaves one free.
//
// First they are picked by what they bring. But such a one may hold what is Gone, which is carried on as long as older pairs of it stand elsewhere. So, where that went on for as many as the disk has, the oldest are cleaned: nothing older stands elsewhere, they leave pairs alone. Those of all segments are a quarter of the disk at most, and, laid behind one another, fill too few segments for none to be left, however badly they fit.
func (s *Store) makeRoom(size int) api.Errno {
	all := s.segments()
	for round := range 2 * all {
		if s.leavesOne(size) {
			return api.OK
		}
		pick := score.Pick
		if round >= all {
			pick = oldest
		}
		if _, e := s.clean(pick); e != api.OK {
			return e
		}
	}
	return api.OK
}

// leavesOne: is a segment free behind an Append of so many bytes? Cleaning needs one to append to. (The power may have gone off in a Clean that had taken the last one: then even a body that fits must wait.)
func (s *Store) leavesOne(size int) bool {
	if s.log.Fits(size) {
		return s.log.Free() >= 1
	}
	return s.log.Free() >= 2
}

// oldest: the place of the oldest segment; -1 of none.
func oldest(l []score.Segment) int {
	if len(l) == 0 {
		return -1
	}
	return 0
}

// clean: of the segments that can be cleaned now that one is which a function picks; its number.
func (s *Store) clean(pick func([]score.Segment) int) (int, api.Errno) {
	ids, known := s.cleanable()
	at := pick(known)
	if at < 0 {
		return -1, api.ErrFull
	}
	id := ids[at]
	if e := s.carryOn(id); e != api.OK {
		return -1, e
	}
	if e := s.log.Drop(id); e != api.OK {
		return -1, e
	}
	s.forget(id)
	return id, api.OK
}

// cleanable: the segments that can be cleaned now, from the oldest on, and what is known of each.
func (s *Store) cleanable() ([]int, []score.Segment) {
	var ids []int
	var known []score.Segment
	all, wanted := s.log.Segments(), s.wantedBytes()
	for i := range len(all) - 1 { // the last one can't be dropped
		id := all[i].ID
		bytes := wanted[id]
		if bytes > 0 && s.log.Free() == 0 && !s.log.Fits(bytes+endSize) {
			continue
		}
		ids = append(ids, id)
		known = append(known, score.Segment{Live: bytes, Size: maxBody, Age: len(all) - i})
	}
	return ids, known
}

// wantedBytes: by its number, how many bytes each segment has that must be appended anew, if it is to go.
func (s *Store) wantedBytes() map[int]int {
	wanted := map[int]int{}
	for key, k := range s.keys {
		if k.wanted() {
			wanted[k.home] += sizeOf(k.change(key))
		}
	}
	return wanted
}

// carryOn: what a segment has that is wanted is appended anew.
func (s *Store) carryOn(id int) api.Errno {
	changes := s.newest(func(_ string, k *entry) bool { return k.home == id && k.wanted() })
	if len(changes) == 0 {
		return api.OK
	}
	body, e := bodyOf(changes) // all of it stood in one segment: it is never too long for one
	if e != api.OK {
		return e
	}
	return s.put(changes, body)
}

// forget: a segment is no more.
func (s *Store) forget(id int) {
	for key, k := range s.keys {
		k.stands = k.stands.without(id)
		if k.stands == 0 { // so it is gone: the newest pair of any other key stands somewhere
			delete(s.keys, key)
		}
	}
}
