package core

import (
	"math"

	"coracle/api"
	"coracle/attr"
	"coracle/dir"
)

// How Create takes a name that is there.
const (
	unchecked = 0
	guarded   = 1
	exclusive = 2
)

// Create: makes a file, how 0 unchecked, 1 guarded, 2 exclusive.
func (f *FS) Create(c Caller, d int, s string, how int, set attr.Set, verf string) (int, api.Status) {
	p, status := f.findSpot(c, d, s)
	switch {
	case status != 0:
		return 0, status
	case how == exclusive:
		set = attr.Set{}
	case how == unchecked || how == guarded:
		verf = ""
	default:
		return 0, api.Inval
	}
	if e, there := p.dir.Names.Get(s); there {
		return f.again(c, e.ID, how, set, verf)
	}
	if status := canSize(set); status != 0 {
		return 0, status
	}
	return f.add(c, p, Node{Attr: attr.Attr{Kind: attr.Reg, Mode: 0644}, Verf: verf}, set)
}

// again: Create of a name that is there.
func (f *FS) again(c Caller, id, how int, set attr.Set, verf string) (int, api.Status) {
	n, status := f.find(id)
	switch {
	case status != 0 || n.Kind != attr.Reg:
		return 0, api.Exist
	case how == exclusive && verf != "" && verf == n.Verf:
		return id, 0
	case how != unchecked:
		return 0, api.Exist
	case !set.HasSize:
		return id, 0
	}
	if status := f.SetAttr(c, id, attr.Set{HasSize: true, Size: set.Size}, nil); status != 0 {
		return 0, status
	}
	return id, 0
}

// Make: makes a directory, a symbolic link, a device, a socket or a pipe.
func (f *FS) Make(c Caller, d int, s string, kind int, set attr.Set, target string, major, minor int) (int, api.Status) {
	p, status := f.findSpot(c, d, s)
	if status != 0 {
		return 0, status
	}
	if _, there := p.dir.Names.Get(s); there {
		return 0, api.Exist
	}
	n, status := c.plan(kind, target, major, minor)
	if status != 0 {
		return 0, status
	}
	set.HasSize = false
	return f.add(c, p, n, set)
}

// plan: what is special to a kind in a new node.
func (c Caller) plan(kind int, target string, major, minor int) (Node, api.Status) {
	n := Node{Attr: attr.Attr{Kind: kind, Mode: 0644}}
	switch kind {
	case attr.Dir:
		n.Mode, n.Names = 0755, new(dir.Dir)
	case attr.Lnk:
		if target == "" || len(target) > api.MaxPath {
			return Node{}, api.Inval
		}
		n.Mode = 0777
		n.hold(target)
	case attr.Blk, attr.Chr:
		if c.UID != 0 {
			return Node{}, api.Perm
		}
		n.Major, n.Minor = major, minor
	case attr.Sock, attr.Fifo:
	default:
		return Node{}, api.BadType
	}
	return n, 0
}

// add: a new node, by what is special to it, in a free spot.
func (f *FS) add(c Caller, p spot, n Node, set attr.Set) (int, api.Status) {
	// No number is one more than the greatest int, and one that goes round might be given already.
	if f.last == math.MaxInt {
		return 0, api.NoSpc
	}
	f.last++
	n.Fsid, n.ID = fsid, f.last
	n.Links = 1
	if n.Kind == attr.Dir {
		n.Links = 2
	}
	n.UID, n.GID = c.UID, c.GID
	n.Access, n.Modify = c.moment(), c.moment()
	set.HasUID = set.HasUID && c.UID == 0
	set.HasGID = set.HasGID && c.UID == 0
	c.set(&n, set)
	f.nodes[n.ID] = &n
	f.lay(c, p, &n)
	return n.ID, 0
}
