package store_test

import (
	"maps"
	"slices"
	"strings"
	"testing"

	"coracle/api"
	"coracle/sector"
	"coracle/seglog"
	"coracle/store"
)

const (
	roomy   = 932  // bytes that may live for each segment
	longest = 3728 // bytes of the longest body
)

func give(key, value string) api.Change { return api.Change{Key: key, Value: value} }

func take(key string) api.Change { return api.Change{Key: key, Gone: true} }

func sized(n int) string { return strings.Repeat("abcdefg", n/7+1)[:n] }

func fours(n int) int { return (n + 3) / 4 * 4 }

// pairs is what a store should hold.
type pairs map[string]string

func (p pairs) bytes() int {
	n := 0
	for k, v := range p {
		n += 16 + fours(len(k)) + fours(len(v))
	}
	return n
}

// behind: the pairs behind these changes.
func (p pairs) behind(changes ...api.Change) pairs {
	p = maps.Clone(p)
	for _, c := range changes {
		if c.Gone {
			delete(p, c.Key)
		} else {
			p[c.Key] = c.Value
		}
	}
	return p
}

func (p pairs) list() []api.Change {
	var l []api.Change
	for _, k := range slices.Sorted(maps.Keys(p)) {
		l = append(l, give(k, p[k]))
	}
	return l
}

// held: the pairs of a store.
func held(s *store.Store) pairs {
	p := pairs{}
	for _, c := range s.Range("", "") {
		p[c.Key] = c.Value
	}
	return p
}

// holds: the store tells just these pairs, by all its calls.
func holds(t *testing.T, s *store.Store, p pairs) {
	t.Helper()
	if got := s.Range("", ""); !slices.Equal(got, p.list()) {
		t.Errorf("%d pairs, not %d", len(got), len(p))
	}
	for k, v := range p {
		if got, ok := s.Get(k); got != v || !ok {
			t.Errorf("Get(%q): %d bytes, not %d", k, len(got), len(v))
		}
	}
	if n, _ := s.Bytes(); n != p.bytes() {
		t.Errorf("%d bytes live, not %d", n, p.bytes())
	}
}

func blank(t *testing.T, sectors int) *sector.Disk {
	t.Helper()
	d, e := sector.New(sectors)
	if e != api.OK {
		t.Fatalf("New(%d): %d", sectors, e)
	}
	return d
}

func imageOf(t *testing.T, d *sector.Disk) []string {
	t.Helper()
	image := make([]string, d.Size())
	for i := range image {
		s, e := d.Read(i)
		if e != api.OK {
			t.Fatalf("Read(%d): %d", i, e)
		}
		image[i] = s
	}
	return image
}

// diskOf: a disk that holds these sectors.
func diskOf(t *testing.T, image []string) *sector.Disk {
	t.Helper()
	d := blank(t, len(image))
	for i, s := range image {
		if e := d.Write(i, s); e != api.OK {
			t.Fatalf("Write(%d): %d", i, e)
		}
	}
	if e := d.Flush(); e != api.OK {
		t.Fatalf("Flush: %d", e)
	}
	return d
}

// lies: the log that lies on a disk, which isn't changed, and its records.
func lies(t *testing.T, d *sector.Disk) (*seglog.Log, []seglog.Record) {
	t.Helper()
	l, records, e := seglog.Open(diskOf(t, imageOf(t, d)))
	if e != api.OK {
		t.Fatalf("no log lies there: %d", e)
	}
	return l, records
}

// opened: a new store on a disk of so many sectors.
func opened(t *testing.T, sectors int) (*sector.Disk, *store.Store) {
	t.Helper()
	d := blank(t, sectors)
	if e := store.Format(d); e != api.OK {
		t.Fatalf("Format: %d", e)
	}
	return d, reopened(t, d)
}

func reopened(t *testing.T, d *sector.Disk) *store.Store {
	t.Helper()
	s, e := store.Open(d)
	if s == nil || e != api.OK {
		t.Fatalf("Open: %d", e)
	}
	return s
}

// laid: a store's disk of so many sectors on which a log has these records.
func laid(t *testing.T, sectors int, bodies ...string) *sector.Disk {
	t.Helper()
	d := blank(t, sectors)
	if e := seglog.Format(d); e != api.OK {
		t.Fatalf("Format: %d", e)
	}
	l, _, e := seglog.Open(d)
	for _, body := range bodies {
		if e == api.OK {
			_, e = l.Append(body)
		}
	}
	if e != api.OK {
		t.Fatalf("the log: %d", e)
	}
	return d
}

// commits: these changes at once, which must be OK; the pairs behind them.
func commits(t *testing.T, s *store.Store, p pairs, changes ...api.Change) pairs {
	t.Helper()
	if e := s.Commit(changes...); e != api.OK {
		t.Fatalf("Commit of %d changes: %d", len(changes), e)
	}
	return p.behind(changes...)
}

func four(n int) string { return string([]byte{byte(n >> 24), byte(n >> 16), byte(n >> 8), byte(n)}) }

func opaque(s string) string {
	return four(len(s)) + s + strings.Repeat("\x00", fours(len(s))-len(s))
}

// bodyOf: the bytes of a record of these changes.
func bodyOf(changes ...api.Change) string {
	var b strings.Builder
	for _, c := range changes {
		if c.Gone {
			b.WriteString(four(1) + four(1) + opaque(c.Key))
		} else {
			b.WriteString(four(1) + four(0) + opaque(c.Key) + opaque(c.Value))
		}
	}
	return b.String() + four(0)
}

// changesOf: the changes of a body that bodyOf could have made.
func changesOf(t *testing.T, body string) []api.Change {
	t.Helper()
	number := func() int {
		n := int(body[0])<<24 | int(body[1])<<16 | int(body[2])<<8 | int(body[3])
		body = body[4:]
		return n
	}
	text := func() string {
		n := number()
		s := body[:n]
		body = body[fours(n):]
		return s
	}
	var changes []api.Change
	for number() == 1 {
		if number() == 1 {
			changes = append(changes, take(text()))
		} else {
			key := text()
			changes = append(changes, give(key, text()))
		}
	}
	if body != "" {
		t.Fatalf("%d bytes behind a body", len(body))
	}
	return changes
}
