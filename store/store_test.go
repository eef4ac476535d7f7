package store_test

import (
	"math/rand"
	"slices"
	"strings"
	"testing"

	"coracle/api"
	"coracle/sector"
	"coracle/seglog"
	"coracle/store"
)

// P7.1: disks that are too small, and the smallest that isn't.
func TestFormat(t *testing.T) {
	for _, d := range []*sector.Disk{nil, blank(t, 1), blank(t, 66), blank(t, 129)} {
		if e := store.Format(d); e != api.ErrArg {
			t.Errorf("Format of %d sectors: %d", d.Size(), e)
		}
		if s, e := store.Open(d); s != nil || e != api.ErrArg {
			t.Errorf("Open of %d sectors: %d", d.Size(), e)
		}
		if w, f := d.Counts(); w != 0 || f != 0 {
			t.Errorf("%d sectors were written", d.Size())
		}
	}
	for _, n := range []int{130, 131, 1026} {
		d, logs := blank(t, n), blank(t, n)
		if store.Format(d) != api.OK || seglog.Format(logs) != api.OK || !slices.Equal(imageOf(t, d), imageOf(t, logs)) {
			t.Errorf("Format of %d sectors isn't the log's", n)
		}
		holds(t, reopened(t, d), pairs{})
	}
}

// P7.1: a small disk is ErrArg, though a log lies on it, and though the power is off.
func TestSmallFirst(t *testing.T) {
	d := laid(t, 129, bodyOf(give("a", "1")))
	d.Cut(1, 0)
	d.Flush()
	if store.Format(d) != api.ErrArg {
		t.Error("Format")
	}
	if s, e := store.Open(d); s != nil || e != api.ErrArg {
		t.Errorf("Open: %d", e)
	}
}

// P7.1: the log's errors.
func TestLogsErrors(t *testing.T) {
	d := blank(t, 130)
	if s, e := store.Open(d); s != nil || e != api.ErrForm {
		t.Errorf("Open of noughts: %d", e)
	}
	for n := 1; n <= 3; n++ {
		d.Cut(n, 0)
		if e := store.Format(d); e != api.ErrPower {
			t.Errorf("Format, cut in step %d: %d", n, e)
		}
		if e := store.Format(d); e != api.ErrPower {
			t.Errorf("Format without power: %d", e)
		}
		if s, e := store.Open(d); s != nil || e != api.ErrPower {
			t.Errorf("Open without power: %d", e)
		}
		d.On()
	}
	d, _ = opened(t, 130)
	for n := 1; n <= 2; n++ {
		d.Cut(n, 0)
		if s, e := store.Open(d); s != nil || e != api.ErrPower {
			t.Errorf("Open, cut in step %d: %d", n, e)
		}
		d.On()
	}
	d = diskOf(t, append([]string{"C" + eight(1) + eight(1<<60) + eight(0) + "\x01\x00\x00"}, make([]string, 129)...))
	if s, e := store.Open(d); s != nil || e != api.ErrFull {
		t.Errorf("Open at the last boot: %d", e)
	}
}

func eight(n int) string { return four(n>>32) + four(n) }

// P7.1: bodies that can't be taken, and changes that aren't good.
func TestBadBodies(t *testing.T) {
	good := bodyOf(give("a", "1"))
	pair := func(key, value string) string { return four(1) + four(0) + opaque(key) + opaque(value) + four(0) }
	gone := func(key string) string { return four(1) + four(1) + opaque(key) + four(0) }
	for name, body := range map[string]string{
		"nothing":           "",
		"a short number":    "\x00\x00\x00",
		"no end":            good[:len(good)-4],
		"no value":          good[:len(good)-8],
		"a tail":            good + four(0),
		"a tail of one":     good + "\x00",
		"a Bool of 2":       four(2) + good[4:],
		"a change of 2":     four(1) + four(2) + opaque("a") + four(0),
		"a key of none":     pair("", "1"),
		"a key of 81":       pair(sized(81), ""),
		"a value of 2001":   pair("a", sized(2001)),
		"no nought behind":  strings.Replace(good, "a\x00\x00\x00", "a\x00\x00\x01", 1),
		"a Gone of none":    gone(""),
		"a Gone of 81":      gone(sized(81)),
		"a Gone with value": four(1) + four(1) + opaque("a") + opaque("1") + four(0),
		"a good one first":  bodyOf(give("a", "1"), give("", "2")),
	} {
		for _, bodies := range [][]string{{body}, {good, body}, {body, good}, {good, sized(0), good}} {
			if s, e := store.Open(laid(t, 130, bodies...)); s != nil || e != api.ErrForm {
				t.Errorf("%s: %d", name, e)
			}
		}
	}
}

// P7.1: bodies at the edges that can be taken, made in order, from segment to segment.
func TestGoodBodies(t *testing.T) {
	key, value := sized(80), sized(2000)
	s := reopened(t, laid(t, 130,
		bodyOf(), bodyOf(give(key, value), give("a", "1"), take("none")), bodyOf(give("a", "2"), give("b", "")), bodyOf(take("b"), give("c", sized(1999))),
		bodyOf(give("d", value)), bodyOf(give("b", "3")), bodyOf(take(key), give("a", "4"), take("a"), give("a", "5"), take("d"))))
	holds(t, s, pairs{"a": "5", "b": "3", "c": sized(1999)})
}

// P7.1, P7.2: how often the store was opened, and the room.
func TestBootAndRoom(t *testing.T) {
	for sectors, segments := range map[int]int{130: 8, 145: 8, 146: 9, 258: 16, 1025: 63, 1026: 64} {
		d, s := opened(t, sectors)
		for boot := 1; boot < 4; boot++ {
			if n, room := s.Bytes(); n != 0 || room != roomy*segments || s.Boot() != boot {
				t.Errorf("%d sectors: %d of %d live, boot %d, not %d", sectors, n, room, s.Boot(), boot)
			}
			s = reopened(t, d)
		}
	}
}

// P7.2: one key's value.
func TestGet(t *testing.T) {
	_, s := opened(t, 130)
	commits(t, s, pairs{}, give("a", "1"), give("b", ""), give("c", "3"), take("c"), give("\x00\xff", "\xff\x00"))
	for key, want := range map[string]string{"a": "1", "b": "", "\x00\xff": "\xff\x00"} {
		if got, ok := s.Get(key); got != want || !ok {
			t.Errorf("Get(%q): %q %v", key, got, ok)
		}
	}
	for _, key := range []string{"", "c", "A", "aa", "\x00", sized(81), sized(100000)} {
		if got, ok := s.Get(key); got != "" || ok {
			t.Errorf("Get(%q): %q %v", key, got, ok)
		}
	}
}

// P7.2: keys from one on and below another, by their bytes.
func TestRange(t *testing.T) {
	_, s := opened(t, 130)
	p := commits(t, s, pairs{}, give("b", "2"), give("\xff", "5"), give("a", "1"), give("aa", "4"), give("\x00", "0"), give("é", "6"), give("B", ""), give("gone", "x"))
	p = commits(t, s, p, take("gone"))
	keys := []string{"", "\x00", "B", "a", "aa", "b", "c", "gone", "é", "\xff", "\xff\xff", "a\x00", "\x00\x00"}
	for _, from := range keys {
		for _, to := range keys {
			var want []api.Change
			for _, c := range p.list() {
				if c.Key >= from && (to == "" || c.Key < to) {
					want = append(want, c)
				}
			}
			if got := s.Range(from, to); !slices.Equal(got, want) {
				t.Errorf("Range(%q, %q): %v, not %v", from, to, got, want)
			}
		}
	}
	clear(s.Range("", ""))
	holds(t, s, p)
}

// P7.2: the bytes of a pair.
func TestBytes(t *testing.T) {
	_, s := opened(t, 130)
	total := 0
	for _, c := range []struct{ key, value, bytes int }{{1, 0, 20}, {2, 1, 24}, {3, 4, 24}, {4, 5, 28}, {5, 3, 28}, {80, 2000, 2096}, {79, 1997, 2096}, {77, 1996, 2092}} {
		commits(t, s, pairs{}, give(sized(c.key), sized(c.value)))
		total += c.bytes
		if n, _ := s.Bytes(); n != total {
			t.Errorf("a key of %d, a value of %d: %d, not %d", c.key, c.value, n, total)
		}
	}
	commits(t, s, pairs{}, give(sized(80), ""), take(sized(79)), take("none"))
	if n, _ := s.Bytes(); n != total-2000-2096 {
		t.Errorf("%d live, not %d", n, total-2000-2096)
	}
}

// same: a call changed neither the pairs nor the disk.
func same(t *testing.T, d *sector.Disk, s *store.Store, call func()) {
	t.Helper()
	d.On()
	p, image := held(s), imageOf(t, d)
	call()
	d.On()
	holds(t, s, p)
	if !slices.Equal(imageOf(t, d), image) {
		t.Error("the disk was changed")
	}
}

// P7.3: changes that aren't good, ahead of all else.
func TestCommitBad(t *testing.T) {
	d, s := opened(t, 130)
	commits(t, s, pairs{}, give("a", "1"))
	for name, c := range map[string]api.Change{
		"nothing": {}, "a key of none": give("", "1"), "a Gone of none": take(""), "a key of 81": give(sized(81), ""), "a Gone of 81": take(sized(81)),
		"a value of 2001": give("a", sized(2001)), "a Gone with a value": {Key: "a", Value: "1", Gone: true}, "a Gone with a nought": {Key: "a", Value: "\x00", Gone: true},
		"a great key": give(sized(1<<20), ""), "a great value": give("a", sized(1<<20)),
	} {
		same(t, d, s, func() {
			long := []api.Change{give("x", sized(2000)), give("y", sized(2000))}
			for _, l := range [][]api.Change{{c}, {give("b", "2"), c}, {c, take("a")}, append(long, c)} {
				if e := s.Commit(l...); e != api.ErrArg {
					t.Errorf("%s: %d", name, e)
				}
			}
			d.Cut(1, 0)
			d.Flush()
			if e := s.Commit(c); e != api.ErrArg {
				t.Errorf("%s, without power: %d", name, e)
			}
		})
	}
}

// P7.3: no changes are none, and are no record.
func TestCommitNone(t *testing.T) {
	d, s := opened(t, 130)
	same(t, d, s, func() {
		d.Cut(1, 0)
		if s.Commit() != api.OK || s.Commit([]api.Change{}...) != api.OK || d.Off() {
			t.Error("no changes")
		}
		d.Flush()
		if s.Commit() != api.OK {
			t.Error("no changes, without power")
		}
	})
}

// P7.3: the longest body, and one that is longer.
func TestCommitLong(t *testing.T) {
	many := func(n int) []api.Change { // of sixteen bytes each
		return slices.Repeat([]api.Change{take("k")}, n)
	}
	for _, c := range []struct {
		changes []api.Change
		size    int
	}{
		{[]api.Change{give("a", sized(2000)), give("b", sized(1684))}, longest},
		{[]api.Change{give("a", sized(2000)), give("b", sized(1685))}, longest + 4},
		{[]api.Change{give("a", sized(2000)), give("a", sized(2000))}, longest + 316},
		{append(many(231), give("a", sized(8))), longest},
		{append(many(231), give("a", sized(9))), longest + 4},
		{many(5000), 80004},
	} {
		d, s := opened(t, 130)
		if n := len(bodyOf(c.changes...)); n != c.size {
			t.Fatalf("the test's body has %d bytes, not %d", n, c.size)
		}
		if c.size <= longest {
			holds(t, s, commits(t, s, pairs{}, c.changes...))
			continue
		}
		same(t, d, s, func() {
			if e := s.Commit(c.changes...); e != api.ErrLong {
				t.Errorf("a body of %d bytes: %d", c.size, e)
			}
			d.Cut(1, 0)
			d.Flush()
			if e := s.Commit(c.changes...); e != api.ErrLong {
				t.Errorf("a body of %d bytes, without power: %d", c.size, e)
			}
		})
	}
}

// P7.3: as many bytes as there is room live, but no more.
func TestCommitFull(t *testing.T) {
	d, s := opened(t, 130)
	p := pairs{}
	for _, key := range []string{"a", "b", "c"} { // of 2020 bytes each
		p = commits(t, s, p, give(key, sized(2000)))
	}
	refused := func(want api.Errno, changes ...api.Change) {
		t.Helper()
		same(t, d, s, func() {
			if e := s.Commit(changes...); e != want {
				t.Errorf("%d, not %d", e, want)
			}
			d.Cut(1, 0)
			d.Flush()
			if e := s.Commit(changes...); e != want {
				t.Errorf("without power: %d, not %d", e, want)
			}
		})
	}
	refused(api.ErrFull, give("d", sized(1377)))
	refused(api.ErrLong, give("d", sized(2000)), give("e", sized(2000)))
	refused(api.ErrFull, give("d", sized(1376)), give("e", ""))
	s = reopened(t, d)
	p = commits(t, s, p, give("d", "x"), give("d", sized(1376))) // of one key only the last one lives
	if n, room := s.Bytes(); n != room {
		t.Fatalf("%d of %d live", n, room)
	}
	refused(api.ErrFull, give("e", ""))
	refused(api.ErrFull, give("d", sized(1377)))
	refused(api.ErrFull, take("d"), give("d", sized(1377)))
	refused(api.ErrFull, give("e", ""), take("none"))
	refused(api.ErrFull, give("e", "1"), give("e", ""))
	s = reopened(t, d)
	p = commits(t, s, p, give("e", sized(2000)), take("e")) // it would be full only between them
	p = commits(t, s, p, give("d", sized(1375)))
	p = commits(t, s, p, take("a"), give("f", sized(2000)))
	p = commits(t, s, p, take("none"))
	holds(t, s, p)
	holds(t, reopened(t, d), p)
}

// P7.3: where more lives than there is room, as much may still, but not more.
func TestCommitOverfull(t *testing.T) {
	var bodies []string
	p := pairs{}
	for _, key := range []string{"a", "b", "c", "d", "e"} {
		p = p.behind(give(key, sized(2000)))
		bodies = append(bodies, bodyOf(give(key, sized(2000))))
	}
	d := laid(t, 130, bodies...)
	s := reopened(t, d)
	if n, room := s.Bytes(); n != 5*2020 || room != 8*roomy {
		t.Fatalf("%d of %d live", n, room)
	}
	same(t, d, s, func() {
		for _, l := range [][]api.Change{{give("f", "")}, {take("a"), give("ff", sized(1997)), give("g", "")}, {give("a", sized(1990)), give("f", "")}} {
			if e := s.Commit(l...); e != api.ErrFull {
				t.Errorf("Commit: %d", e)
			}
		}
	})
	p = commits(t, s, p, give("a", strings.Repeat("A", 2000)))
	p = commits(t, s, p, take("b"), give("f", sized(2000)))
	p = commits(t, s, p, take("none"))
	p = commits(t, s, p, give("c", sized(1996)))
	if s.Commit(give("c", sized(2000))) != api.ErrFull {
		t.Error("more than lived")
	}
	p = commits(t, s, p, take("d"), take("e"))
	p = commits(t, s, p, give("d", sized(1000)))
	holds(t, s, p)
	holds(t, reopened(t, d), p)
}

// P7.3: the changes of one Commit are one record, as they came, and nothing else is written.
func TestCommitRecord(t *testing.T) {
	d, s := opened(t, 130)
	var want []string
	for _, changes := range [][]api.Change{
		{give("a", "1"), give("b", "2")}, {take("a")}, {take("none")}, {give("a", "3"), take("a"), give("a", "4"), give("a", "4")}, {give(sized(80), sized(2000))}, {give("b", "2")},
	} {
		l := append(slices.Clone(changes), give("behind", "x"))
		commits(t, s, pairs{}, l[:len(changes)]...)
		if !slices.Equal(l[:len(changes)], changes) || l[len(changes)] != give("behind", "x") {
			t.Error("what was handed in was changed")
		}
		want = append(want, bodyOf(changes...))
		_, records := lies(t, d)
		var got []string
		for _, r := range records {
			got = append(got, r.Body)
		}
		if !slices.Equal(got, want) {
			t.Fatalf("records %q, not %q", got, want)
		}
	}
	holds(t, s, pairs{"a": "4", "b": "2", sized(80): sized(2000)})
}

// P7.3: a Commit that fits, or for which two segments are free, drops none.
func TestCommitDropsNone(t *testing.T) {
	d, s := opened(t, 130)
	for i := range 7 { // the last one leaves one free
		commits(t, s, pairs{}, give("a", sized(2000)), give("b", sized(1684)))
		if l, records := lies(t, d); len(records) != i+1 || l.Free() != 7-i {
			t.Errorf("behind %d: %d records, %d free", i+1, len(records), l.Free())
		}
	}
	d, s = opened(t, 130)
	for i := range 7 * 16 { // a sector each
		commits(t, s, pairs{}, give("a", sized(200)))
		if _, records := lies(t, d); len(records) != i+1 {
			t.Errorf("behind %d: %d records", i+1, len(records))
		}
	}
}

// P7.3: numbers at their end.
func TestLastNumbers(t *testing.T) {
	for _, c := range []struct{ serial, boot, seq, commits int }{{1, 1, 1<<60 - 2, 2}, {1, 1<<60 - 1, 1, 0}, {1<<60 - 1, 1, 1, 0}} {
		d := diskOf(t, append([]string{"C" + eight(c.serial) + eight(c.boot) + eight(c.seq) + "\x01\x00\x00"}, make([]string, 129)...))
		s := reopened(t, d)
		for range c.commits {
			commits(t, s, pairs{}, give("a", "1"))
		}
		p := held(s)
		for range 2 {
			if e := s.Commit(give("a", "2")); e != api.ErrFull {
				t.Errorf("Commit at the last numbers: %d", e)
			}
		}
		holds(t, s, p)
	}
}

// P7.5: of a nil store.
func TestNil(t *testing.T) {
	var s *store.Store
	if s.Commit() != api.ErrArg || s.Commit(give("a", "1")) != api.ErrArg || s.Commit(api.Change{}) != api.ErrArg {
		t.Error("Commit of nil")
	}
	if id, e := s.Clean(); id != -1 || e != api.ErrArg {
		t.Errorf("Clean of nil: %d %d", id, e)
	}
	if v, ok := s.Get("a"); v != "" || ok || len(s.Range("", "")) != 0 || s.Boot() != 0 {
		t.Error("a nil store holds something")
	}
	if n, room := s.Bytes(); n != 0 || room != 0 {
		t.Errorf("Bytes of nil: %d %d", n, room)
	}
}

// P7.1 to P7.3: by chance, held against a map, and opened anew.
func TestByChance(t *testing.T) {
	r := rand.New(rand.NewSource(73))
	for range 30 {
		d, s := opened(t, 130+16*r.Intn(3))
		p := pairs{}
		_, room := s.Bytes()
		for range 200 {
			changes := draw(r, 1+r.Intn(8), 30)
			want := api.OK
			if len(bodyOf(changes...)) > longest {
				want = api.ErrLong
			} else if n := p.behind(changes...).bytes(); n > room && n > p.bytes() {
				want = api.ErrFull
			} else {
				p = p.behind(changes...)
			}
			if e := s.Commit(changes...); e != want {
				t.Fatalf("Commit: %d, not %d", e, want)
			}
			if r.Intn(20) == 0 {
				s = reopened(t, d)
			}
			holds(t, s, p)
			if t.Failed() {
				return
			}
		}
	}
}

// draw: changes by chance, of so many keys.
func draw(r *rand.Rand, n, keys int) []api.Change {
	var changes []api.Change
	for range n {
		key := "k" + sized(r.Intn(keys))
		if r.Intn(3) == 0 {
			changes = append(changes, take(key))
		} else {
			changes = append(changes, give(key, sized(r.Intn(1+r.Intn(2001)))))
		}
	}
	return changes
}
