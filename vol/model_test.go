package vol_test

import (
	"encoding/binary"
	"fmt"
	"maps"
	"slices"
	"strings"
	"testing"

	"coracle/api"
	"coracle/attr"
	"coracle/core"
	"coracle/dir"
	"coracle/sector"
	"coracle/store"
	"coracle/vol"
)

const (
	longest = 3728 // bytes of a record's body
	roomy   = 932  // bytes that may live for each segment
)

func give(key, value string) api.Change { return api.Change{Key: key, Value: value} }

func take(key string) api.Change { return api.Change{Key: key, Gone: true} }

func four(n int) string { return string(binary.BigEndian.AppendUint32(nil, uint32(n))) }

func eight(n int) string { return string(binary.BigEndian.AppendUint64(nil, uint64(n))) }

func eights(numbers ...int) string {
	s := ""
	for _, n := range numbers {
		s += eight(n)
	}
	return s
}

func fours(n int) int { return (n + 3) / 4 * 4 }

func opaque(s string) string {
	return four(len(s)) + s + strings.Repeat("\x00", fours(len(s))-len(s))
}

func noughts(n int) string { return strings.Repeat("\x00", n) }

func sized(n int) string { return strings.Repeat("abcdefg", n/7+1)[:n] }

// pairs is what a store holds.
type pairs map[string]string

func (p pairs) bytes() int {
	n := 0
	for k, v := range p {
		n += 16 + fours(len(k)) + fours(len(v))
	}
	return n
}

func (p pairs) behind(changes ...api.Change) pairs {
	p = maps.Clone(p)
	for _, c := range changes {
		if c.Gone {
			delete(p, c.Key)
		} else {
			p[c.Key] = c.Value
		}
	}
	return p
}

// without: the pairs whose keys don't begin so.
func (p pairs) without(mark string) pairs {
	p = maps.Clone(p)
	maps.DeleteFunc(p, func(k, _ string) bool { return strings.HasPrefix(k, mark) })
	return p
}

// lacks: what must be changed in other pairs, so that they are these.
func (p pairs) lacks(other pairs) []api.Change {
	var l []api.Change
	for k, v := range p {
		if old, ok := other[k]; !ok || old != v {
			l = append(l, give(k, v))
		}
	}
	for k := range other {
		if _, ok := p[k]; !ok {
			l = append(l, take(k))
		}
	}
	slices.SortFunc(l, func(a, b api.Change) int { return strings.Compare(a.Key, b.Key) })
	return l
}

// body: how many bytes changes take in a record.
func body(changes ...api.Change) int {
	n := 4
	for _, c := range changes {
		n += 12 + fours(len(c.Key))
		if !c.Gone {
			n += 4 + fours(len(c.Value))
		}
	}
	return n
}

// ours: is the key the file system's?
func ours(key string) bool { return strings.ContainsRune("sied", rune(key[0])) }

// others: the caller's pairs, as changes.
func (p pairs) others() []api.Change {
	var l []api.Change
	for _, k := range slices.Sorted(maps.Keys(p)) {
		if !ours(k) {
			l = append(l, give(k, p[k]))
		}
	}
	return l
}

// file is a node, told as a text but for its bytes.
type file struct {
	text, data string
	kind, size int
}

// state is a file system as it can be told from without.
type state struct {
	files map[int]file
	last  int
}

func tell(n core.Node, entries []dir.Entry, next int) file {
	f := file{kind: n.Kind, size: n.Size, data: n.Data}
	f.text = fmt.Sprintf("%v %q %d %v %d", n.Attr, n.Verf, n.Parent, entries, next)
	return f
}

func stateOf(f *core.FS) state {
	s := state{files: map[int]file{}, last: f.Last(0)}
	for _, id := range f.IDs() {
		n, _ := f.Node(id)
		s.files[id] = tell(n, n.Names.After(0, 1<<20), n.Names.Next())
	}
	return s
}

func (s state) equal(other state) bool {
	return s.last == other.last && maps.Equal(s.files, other.files)
}

// same: both file systems are alike.
func same(t *testing.T, what string, got, want state) {
	t.Helper()
	if got.last != want.last {
		t.Errorf("%s: the greatest number is %d, not %d", what, got.last, want.last)
	}
	for id, f := range want.files {
		if g := got.files[id]; g != f {
			t.Errorf("%s: file %d is %s with %d bytes, not %s with %d", what, id, g.text, len(g.data), f.text, len(f.data))
		}
	}
	for id, f := range got.files {
		if _, ok := want.files[id]; !ok {
			t.Errorf("%s: file %d is there: %s", what, id, f.text)
		}
	}
}

// filePairs: how a node is kept, but for the names in it, as the chapter tells it.
func filePairs(n core.Node) pairs {
	parent, next, link := 0, 0, ""
	p := pairs{}
	switch n.Kind {
	case attr.Dir:
		parent, next = n.Parent, n.Names.Next()
	case attr.Lnk:
		link = n.Data
	case attr.Reg:
		for i := 0; i < len(n.Data); i += 128 {
			piece := n.Data[i:min(i+128, len(n.Data))]
			for strings.HasSuffix(piece, "\x00") {
				piece = piece[:len(piece)-1]
			}
			if piece != "" {
				p["d"+eight(n.ID)+four(i/128)] = piece
			}
		}
	}
	a := n.Attr
	p["i"+eight(n.ID)] = eights(a.Kind, a.Mode, a.Links, a.UID, a.GID, a.Size, a.Used, a.Major, a.Minor, a.Fsid, a.ID,
		a.Access.S, a.Access.N, a.Modify.S, a.Modify.N, a.Change.S, a.Change.N, parent, next) + opaque(n.Verf) + opaque(link)
	return p
}

// allPairs: how a whole file system is kept.
func allPairs(f *core.FS) pairs {
	p := pairs{"s": eight(f.Last(0))}
	for _, id := range f.IDs() {
		n, _ := f.Node(id)
		maps.Copy(p, filePairs(n))
		for _, e := range n.Names.After(0, 1<<20) {
			p["e"+eight(id)+e.Name] = eights(e.ID, e.Cookie)
		}
	}
	return p
}

func number(s string) int { return int(binary.BigEndian.Uint64([]byte(s))) }

// told: the file system that pairs keep.
func told(p pairs) state {
	s := state{files: map[int]file{}, last: number(p["s"])}
	entries := map[int][]dir.Entry{}
	for k, v := range p {
		if k[0] == 'e' {
			d := number(k[1:9])
			entries[d] = append(entries[d], dir.Entry{Name: k[9:], ID: number(v[:8]), Cookie: number(v[8:])})
		}
	}
	for k, v := range p {
		if k[0] != 'i' {
			continue
		}
		var n [19]int
		for i := range n {
			n[i] = number(v[8*i : 8*i+8])
		}
		a, _, _ := attr.Get(n[:17])
		texts := v[8*19:]
		size := int(binary.BigEndian.Uint32([]byte(texts)))
		x := core.Node{Attr: a, Verf: texts[4 : 4+size], Parent: n[17]}
		link := texts[4+fours(size):]
		x.Data = link[4 : 4+binary.BigEndian.Uint32([]byte(link))]
		if a.Kind == attr.Reg {
			x.Data = p.data(a.ID, a.Size)
		}
		l := entries[a.ID]
		slices.SortFunc(l, func(a, b dir.Entry) int { return a.Cookie - b.Cookie })
		s.files[a.ID] = tell(x, l, n[18])
	}
	return s
}

// data: so many bytes of a file, by its pieces.
func (p pairs) data(id, size int) string {
	b := make([]byte, max(size, 8192))
	for i := range 64 {
		copy(b[128*i:], p["d"+eight(id)+four(i)])
	}
	return string(b[:size])
}

func blank(t *testing.T, sectors int) *sector.Disk {
	t.Helper()
	d, e := sector.New(sectors)
	if e != api.OK {
		t.Fatalf("New(%d): %d", sectors, e)
	}
	return d
}

// copied: a disk that holds the same; what isn't flushed lasts there.
func copied(t *testing.T, d *sector.Disk) *sector.Disk {
	t.Helper()
	c := blank(t, d.Size())
	for i := range d.Size() {
		s, e := d.Read(i)
		if e != api.OK || c.Write(i, s) != api.OK {
			t.Fatalf("Read(%d): %d", i, e)
		}
	}
	c.Flush()
	return c
}

// lies: the pairs that lie on a disk, which stays as it is.
func lies(t *testing.T, d *sector.Disk) pairs {
	t.Helper()
	s, e := store.Open(copied(t, d))
	if e != api.OK {
		t.Fatalf("the store's Open: %d", e)
	}
	p := pairs{}
	for _, c := range s.Range("", "") {
		p[c.Key] = c.Value
	}
	return p
}

// lie: these pairs, and no others, lie on a disk.
func lie(t *testing.T, sectors int, p pairs) *sector.Disk {
	t.Helper()
	d := blank(t, sectors)
	if e := store.Format(d); e != api.OK {
		t.Fatalf("the store's Format: %d", e)
	}
	s, e := store.Open(d)
	for _, k := range slices.Sorted(maps.Keys(p)) {
		if e == api.OK {
			e = s.Commit(give(k, p[k]))
		}
	}
	if e != api.OK {
		t.Fatalf("the store's Commit: %d", e)
	}
	return d
}

// differ: tells where pairs aren't as they should be.
func differ(t *testing.T, what string, got, want pairs) {
	t.Helper()
	l := want.lacks(got)
	for _, c := range l[:min(len(l), 3)] {
		t.Errorf("%s: %d pairs differ; %q is %q, not %q (gone: %v)", what, len(l), c.Key, got[c.Key], c.Value, c.Gone)
	}
}

// formatted: a new file system, opened, on a disk of so many sectors.
func formatted(t *testing.T, sectors int) (*sector.Disk, *vol.Vol) {
	t.Helper()
	d := blank(t, sectors)
	if e := vol.Format(d, 5); e != api.OK {
		t.Fatalf("Format: %d", e)
	}
	return d, reopened(t, d)
}

// reopened: the file system that lies on a disk, which is as the pairs there tell.
func reopened(t *testing.T, d *sector.Disk) *vol.Vol {
	t.Helper()
	p := lies(t, d)
	v, more, e := vol.Open(d)
	if v == nil || e != api.OK {
		t.Fatalf("Open: %d", e)
	}
	if !slices.Equal(more, p.others()) {
		t.Errorf("Open: the caller's %v, not %v", more, p.others())
	}
	same(t, "Open", stateOf(v.FS()), told(p))
	if l := v.FS().Met(); len(l) != 0 {
		t.Errorf("Open: met is %v", l)
	}
	isDirty(t, v)
	differ(t, "Open", lies(t, d), p)
	return v
}

func is(t *testing.T, what string, got, want api.Errno) {
	t.Helper()
	if got != want {
		t.Errorf("%s: %d, not %d", what, got, want)
	}
}

func isDirty(t *testing.T, v *vol.Vol, want ...int) {
	t.Helper()
	if got := v.Dirty(); !slices.Equal(got, want) {
		t.Errorf("dirty are %v, not %v", got, want)
	}
}
