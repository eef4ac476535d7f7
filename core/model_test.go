package core_test

import (
	"cmp"
	"maps"
	"math"
	"slices"
	"testing"

	"coracle/api"
	"coracle/attr"
	"coracle/core"
	"coracle/dir"
	"coracle/name"
)

// file is a node as the document's words tell it; Links, Size and Used aren't kept, but counted when they are asked.
type file struct {
	attr   attr.Attr
	data   []byte
	verf   string
	parent int
	names  []dir.Entry // by rising cookies
	next   int
}

// model is a file system as the document's words tell it.
type model struct {
	files map[int]*file
	last  int
	met   map[core.Met]int
}

func at(now int) attr.Time { return attr.Time{S: now} }

func newModel(now int) *model {
	a := attr.Attr{Kind: attr.Dir, Mode: 0777, Fsid: 1, ID: 1, Access: at(now), Modify: at(now), Change: at(now)}
	m := &model{files: map[int]*file{1: {attr: a, parent: 1, next: 3}}, last: 1, met: map[core.Met]int{}}
	m.meet(core.Met{ID: 1})
	return m
}

func (m *model) clone() *model {
	c := &model{files: map[int]*file{}, last: m.last, met: maps.Clone(m.met)}
	for id, x := range m.files {
		own := *x
		own.data, own.names = slices.Clone(x.data), slices.Clone(x.names)
		c.files[id] = &own
	}
	return c
}

func (m *model) meet(l ...core.Met) {
	for _, x := range l {
		m.met[x]++
	}
}

// takeMet: what Met should answer.
func (m *model) takeMet() []core.Met {
	l := slices.Collect(maps.Keys(m.met))
	slices.SortFunc(l, func(a, b core.Met) int {
		return cmp.Or(cmp.Compare(a.ID, b.ID), cmp.Compare(a.Name, b.Name))
	})
	m.met = map[core.Met]int{}
	return l
}

// known: a file's Attr, with what is counted.
func (m *model) known(id int) attr.Attr {
	x := m.files[id]
	a := x.attr
	if a.Kind == attr.Dir {
		a.Size, a.Used, a.Links = len(x.names), 0, 2
		for _, e := range x.names {
			if m.files[e.ID].attr.Kind == attr.Dir {
				a.Links++
			}
		}
		return a
	}
	a.Size, a.Used, a.Links = len(x.data), 0, 0
	for a.Used < a.Size {
		a.Used += api.Piece
	}
	for _, d := range m.files {
		for _, e := range d.names {
			if e.ID == id {
				a.Links++
			}
		}
	}
	return a
}

func (x *file) find(s string) (dir.Entry, bool) {
	for _, e := range x.names {
		if e.Name == s {
			return e, true
		}
	}
	return dir.Entry{}, false
}

func may(c core.Caller, x *file, bits int) bool {
	return attr.May(x.attr, c.UID, c.GID, c.Groups, bits)
}
func owns(c core.Caller, x *file) bool { return c.UID == 0 || c.UID == x.attr.UID }

func (m *model) dirFor(c core.Caller, d, bits int) api.Status {
	x := m.files[d]
	switch {
	case x == nil:
		return api.Stale
	case x.attr.Kind != attr.Dir:
		return api.NotDir
	case !may(c, x, bits):
		return api.Acces
	}
	return 0
}

func (m *model) spot(c core.Caller, d int, s string) api.Status {
	if st := m.dirFor(c, d, 3); st != 0 {
		return st
	}
	return name.Check(s)
}

// touch: a directory is changed by a name.
func (m *model) touch(c core.Caller, d int, s string) {
	x := m.files[d]
	x.attr.Modify, x.attr.Change = at(c.Now), at(c.Now)
	m.meet(core.Met{ID: d}, core.Met{ID: d, Name: s})
}

func (m *model) addName(c core.Caller, d int, s string, id int) {
	x := m.files[d]
	x.names = append(x.names, dir.Entry{Name: s, ID: id, Cookie: x.next})
	x.next++
	m.touch(c, d, s)
	m.meet(core.Met{ID: id})
}

func (m *model) dropName(c core.Caller, d int, s string) {
	x := m.files[d]
	x.names = slices.DeleteFunc(x.names, func(e dir.Entry) bool { return e.Name == s })
	m.touch(c, d, s)
}

// lose: a name goes, and what it led to with its last one.
func (m *model) lose(c core.Caller, d int, s string) {
	e, _ := m.files[d].find(s)
	m.dropName(c, d, s)
	m.meet(core.Met{ID: e.ID})
	x := m.files[e.ID]
	x.attr.Change = at(c.Now)
	if x.attr.Kind == attr.Dir || m.known(e.ID).Links == 0 {
		delete(m.files, e.ID)
	}
}

func (m *model) lookup(c core.Caller, d int, s string) (int, api.Status) {
	if st := m.dirFor(c, d, 1); st != 0 {
		return 0, st
	}
	if s == "." {
		return d, 0
	}
	if s == ".." {
		return m.files[d].parent, 0
	}
	if st := name.Check(s); st != 0 {
		return 0, st
	}
	if e, ok := m.files[d].find(s); ok {
		return e.ID, 0
	}
	return 0, api.NoEnt
}

func (m *model) access(c core.Caller, id, bits int) (int, api.Status) {
	x := m.files[id]
	if x == nil {
		return 0, api.Stale
	}
	var l int
	for _, bit := range []int{1, 2, 4, 8, 16, 32} {
		isDir := x.attr.Kind == attr.Dir
		need := map[int]int{1: 4, 4: 2, 8: 2}[bit]
		switch {
		case bit == 16 && isDir:
			need = 2
		case bit == 2 && isDir, bit == 32 && !isDir:
			need = 1
		}
		if bits&bit != 0 && need != 0 && may(c, x, need) {
			l += bit
		}
	}
	return l, 0
}

// sizeStatus: SetAttr's statuses for a Size.
func sizeStatus(c core.Caller, x *file, size int) api.Status {
	switch {
	case !owns(c, x) && !may(c, x, 2):
		return api.Acces
	case x.attr.Kind == attr.Dir:
		return api.IsDir
	case x.attr.Kind != attr.Reg || size < 0:
		return api.Inval
	case size > 8192:
		return api.FBig
	}
	return 0
}

func setStatus(c core.Caller, x *file, s attr.Set) api.Status {
	own := owns(c, x)
	if s.HasMode && !own {
		return api.Perm
	}
	if s.HasUID && c.UID != 0 && !(own && x.attr.UID == s.UID) {
		return api.Perm
	}
	if s.HasGID {
		his := append([]int{x.attr.GID, c.GID}, c.Groups...)
		if !own || c.UID != 0 && !slices.Contains(his, s.GID) {
			return api.Perm
		}
	}
	if s.HasSize {
		if st := sizeStatus(c, x, s.Size); st != 0 {
			return st
		}
	}
	for _, how := range []int{s.HowAccess, s.HowModify} {
		if how == 2 && !own {
			return api.Perm
		}
		if how == 1 && !own && !may(c, x, 2) {
			return api.Acces
		}
	}
	return 0
}

func setAll(c core.Caller, x *file, s attr.Set) {
	if s.HasMode {
		x.attr.Mode = ((s.Mode % 4096) + 4096) % 4096
	}
	if s.HasUID {
		x.attr.UID = s.UID
	}
	if s.HasGID {
		x.attr.GID = s.GID
	}
	x.attr.Change = at(c.Now)
	if s.HasSize && s.Size != len(x.data) {
		x.data = append(x.data, make([]byte, 8192)...)[:s.Size]
		x.attr.Modify = at(c.Now)
	}
	if s.HowAccess == 1 {
		x.attr.Access = at(c.Now)
	}
	if s.HowAccess == 2 {
		x.attr.Access = s.Access
	}
	if s.HowModify == 1 {
		x.attr.Modify = at(c.Now)
	}
	if s.HowModify == 2 {
		x.attr.Modify = s.Modify
	}
}

func (m *model) setAttr(c core.Caller, id int, s attr.Set, guard []attr.Time) api.Status {
	x := m.files[id]
	if x == nil {
		return api.Stale
	}
	if len(guard) > 0 && guard[0] != x.attr.Change {
		return api.NotSync
	}
	if st := setStatus(c, x, s); st != 0 {
		return st
	}
	setAll(c, x, s)
	m.meet(core.Met{ID: id})
	return 0
}

// fileFor: the statuses that Read and Write begin with.
func (m *model) fileFor(c core.Caller, id, bits int) api.Status {
	x := m.files[id]
	switch {
	case x == nil:
		return api.Stale
	case x.attr.Kind == attr.Dir:
		return api.IsDir
	case x.attr.Kind != attr.Reg:
		return api.Inval
	case !may(c, x, bits) && !owns(c, x):
		return api.Acces
	}
	return 0
}

func (m *model) read(c core.Caller, id, offset, n int) (string, bool, api.Status) {
	st := m.fileFor(c, id, 4)
	if st == 0 && (offset < 0 || n < 0) {
		st = api.Inval
	}
	if st != 0 {
		return "", false, st
	}
	var l []byte
	for i, b := range m.files[id].data {
		if i >= offset && len(l) < n {
			l = append(l, b)
		}
	}
	return string(l), float64(offset)+float64(len(l)) >= float64(len(m.files[id].data)), 0
}

func (m *model) readlink(_ core.Caller, id int) (string, api.Status) {
	x := m.files[id]
	if x == nil {
		return "", api.Stale
	}
	if x.attr.Kind != attr.Lnk {
		return "", api.Inval
	}
	return string(x.data), 0
}

func (m *model) write(c core.Caller, id, offset int, data string) api.Status {
	st := m.fileFor(c, id, 2)
	switch {
	case st != 0:
		return st
	case offset < 0:
		return api.Inval
	case float64(offset)+float64(len(data)) > 8192:
		return api.FBig
	case len(data) == 0:
		return 0
	}
	x := m.files[id]
	for len(x.data) < offset+len(data) {
		x.data = append(x.data, 0)
	}
	for i := range len(data) {
		x.data[offset+i] = data[i]
	}
	x.attr.Modify, x.attr.Change = at(c.Now), at(c.Now)
	m.meet(core.Met{ID: id})
	return 0
}

// newFile: a new node of a kind; what set has is set, but what a new node may not be given.
func (m *model) newFile(c core.Caller, d int, s string, x *file, set attr.Set) int {
	m.last++
	x.attr.UID, x.attr.GID = c.UID, c.GID
	x.attr.Fsid, x.attr.ID = 1, m.last
	x.attr.Access, x.attr.Modify, x.attr.Change = at(c.Now), at(c.Now), at(c.Now)
	if c.UID != 0 {
		set.HasUID, set.HasGID = false, false
	}
	setAll(c, x, set)
	m.files[m.last] = x
	m.addName(c, d, s, m.last)
	return m.last
}

func (m *model) create(c core.Caller, d int, s string, how int, set attr.Set, verf string) (int, api.Status) {
	if st := m.spot(c, d, s); st != 0 {
		return 0, st
	}
	if how < 0 || how > 2 {
		return 0, api.Inval
	}
	if how == 2 {
		set = attr.Set{}
	} else {
		verf = ""
	}
	e, there := m.files[d].find(s)
	if !there {
		if set.HasSize && set.Size < 0 {
			return 0, api.Inval
		}
		if set.HasSize && set.Size > 8192 {
			return 0, api.FBig
		}
		return m.newFile(c, d, s, &file{attr: attr.Attr{Kind: attr.Reg, Mode: 0644}, verf: verf}, set), 0
	}
	x := m.files[e.ID]
	if how == 2 && x.attr.Kind == attr.Reg && x.verf != "" && x.verf == verf {
		return e.ID, 0
	}
	if how != 0 || x.attr.Kind != attr.Reg {
		return 0, api.Exist
	}
	if set.HasSize {
		if st := m.setAttr(c, e.ID, attr.Set{HasSize: true, Size: set.Size}, nil); st != 0 {
			return 0, st
		}
	}
	return e.ID, 0
}

func (m *model) make(c core.Caller, d int, s string, kind int, set attr.Set, target string, major, minor int) (int, api.Status) {
	if st := m.spot(c, d, s); st != 0 {
		return 0, st
	}
	if _, there := m.files[d].find(s); there {
		return 0, api.Exist
	}
	x := &file{attr: attr.Attr{Kind: kind, Mode: 0644}}
	switch kind {
	case attr.Dir:
		x.attr.Mode, x.parent, x.next = 0755, d, 3
	case attr.Lnk:
		if len(target) == 0 || len(target) > 256 {
			return 0, api.Inval
		}
		x.attr.Mode, x.data = 0777, []byte(target)
	case attr.Blk, attr.Chr:
		if c.UID != 0 {
			return 0, api.Perm
		}
		x.attr.Major, x.attr.Minor = major, minor
	case attr.Sock, attr.Fifo:
	default:
		return 0, api.BadType
	}
	set.HasSize = false
	return m.newFile(c, d, s, x, set), 0
}

// remove: Remove, or Rmdir.
func (m *model) remove(c core.Caller, d int, s string, isDir bool) api.Status {
	if st := m.spot(c, d, s); st != 0 {
		return st
	}
	e, there := m.files[d].find(s)
	if !there {
		return api.NoEnt
	}
	x := m.files[e.ID]
	switch {
	case !isDir && x.attr.Kind == attr.Dir:
		return api.IsDir
	case isDir && x.attr.Kind != attr.Dir:
		return api.NotDir
	case isDir && len(x.names) > 0:
		return api.NotEmpty
	}
	m.lose(c, d, s)
	return 0
}

// below: is a directory another one, or anywhere below it?
func (m *model) below(d, above int) bool {
	if d == above {
		return true
	}
	for _, e := range m.files[above].names {
		if m.files[e.ID].attr.Kind == attr.Dir && m.below(d, e.ID) {
			return true
		}
	}
	return false
}

func (m *model) rename(c core.Caller, d int, s string, to int, t string) api.Status {
	if st := m.spot(c, d, s); st != 0 {
		return st
	}
	if st := m.spot(c, to, t); st != 0 {
		return st
	}
	e, there := m.files[d].find(s)
	if !there {
		return api.NoEnt
	}
	x := m.files[e.ID]
	isDir := x.attr.Kind == attr.Dir
	if isDir && m.below(to, e.ID) {
		return api.Inval
	}
	if old, there := m.files[to].find(t); there {
		o := m.files[old.ID]
		switch {
		case old.ID == e.ID:
			return 0
		case isDir != (o.attr.Kind == attr.Dir):
			return api.Exist
		case len(o.names) > 0:
			return api.NotEmpty
		}
		m.lose(c, to, t)
	}
	m.dropName(c, d, s)
	m.addName(c, to, t, e.ID)
	x.attr.Change = at(c.Now)
	if isDir {
		x.parent = to
	}
	return 0
}

func (m *model) link(c core.Caller, id, d int, s string) api.Status {
	x := m.files[id]
	if x == nil {
		return api.Stale
	}
	if st := m.spot(c, d, s); st != 0 {
		return st
	}
	_, there := m.files[d].find(s)
	switch {
	case x.attr.Kind == attr.Dir:
		return api.IsDir
	case there:
		return api.Exist
	case m.known(id).Links >= 100:
		return api.MLink
	}
	x.attr.Change = at(c.Now)
	m.addName(c, d, s, id)
	return 0
}

func (m *model) readdir(c core.Caller, d, cookie, n int) ([]dir.Entry, bool, api.Status) {
	if st := m.dirFor(c, d, 4); st != 0 {
		return nil, false, st
	}
	x := m.files[d]
	if cookie < 0 || cookie >= x.next {
		return nil, false, api.BadCookie
	}
	var l []dir.Entry
	end := true
	for _, e := range append([]dir.Entry{{Name: ".", ID: d, Cookie: 1}, {Name: "..", ID: x.parent, Cookie: 2}}, x.names...) {
		switch {
		case e.Cookie <= cookie:
		case len(l) < n:
			l = append(l, e)
		default:
			end = false
		}
	}
	return l, end, 0
}

// same: the file system has what the model has; Met isn't asked.
func same(t *testing.T, f *core.FS, m *model) {
	t.Helper()
	ids := slices.Sorted(maps.Keys(m.files))
	if got := f.IDs(); !slices.Equal(got, ids) {
		t.Fatalf("IDs: %v, not %v", got, ids)
	}
	if got := f.Last(math.MinInt); got != m.last {
		t.Fatalf("Last: %d, not %d", got, m.last)
	}
	for _, id := range ids {
		x := m.files[id]
		n, ok := f.Node(id)
		if !ok || n.Attr != m.known(id) {
			t.Fatalf("Node(%d): %v %v, not %v", id, n.Attr, ok, m.known(id))
		}
		if n.Data != string(x.data) || n.Verf != x.verf || n.Parent != x.parent {
			t.Fatalf("Node(%d): %q %q %d, not %q %q %d", id, n.Data, n.Verf, n.Parent, x.data, x.verf, x.parent)
		}
		if got := n.Names.After(0, math.MaxInt); !slices.Equal(got, x.names) || n.Names.Next() != x.next {
			t.Fatalf("Node(%d): names %v, next %d; not %v, %d", id, got, n.Names.Next(), x.names, x.next)
		}
	}
}

// sameMet: Met answers what the model met since.
func sameMet(t *testing.T, f *core.FS, m *model) {
	t.Helper()
	if got, want := f.Met(), m.takeMet(); !slices.Equal(got, want) {
		t.Fatalf("Met: %v, not %v", got, want)
	}
}
