package core

import (
	"coracle/api"
	"coracle/attr"
	"coracle/dir"
	"coracle/name"
)

// What a caller may do, in the bits of a Mode.
const (
	mayRead  = 4
	mayWrite = 2
	mayPass  = 1 // go through a directory, run what isn't one
)

func (c Caller) moment() attr.Time { return attr.Time{S: c.Now} }

func (c Caller) may(n *Node, bits int) bool {
	return attr.May(n.Attr, c.UID, c.GID, c.Groups, bits)
}

func (c Caller) owns(n *Node) bool { return c.UID == 0 || c.UID == n.UID }

// ownsOrMay: an owner's file stays open to him, even when he has taken the bits from himself.
func (c Caller) ownsOrMay(n *Node, bits int) bool { return c.owns(n) || c.may(n, bits) }

func (f *FS) find(id int) (*Node, api.Status) {
	if f == nil || f.nodes[id] == nil {
		return nil, api.Stale
	}
	return f.nodes[id], 0
}

// findDir: the directory of a number, in which the caller may do what bits tell.
func (f *FS) findDir(c Caller, id, bits int) (*Node, api.Status) {
	n, status := f.find(id)
	switch {
	case status != 0:
		return nil, status
	case n.Kind != attr.Dir:
		return nil, api.NotDir
	case !c.may(n, bits):
		return nil, api.Acces
	}
	return n, 0
}

// spot is a directory and what is a name or may become one in it.
type spot struct {
	dir  *Node
	name string
}

func (f *FS) findSpot(c Caller, d int, s string) (spot, api.Status) {
	n, status := f.findDir(c, d, mayWrite|mayPass)
	if status == 0 {
		status = name.Check(s)
	}
	if status != 0 {
		return spot{}, status
	}
	return spot{n, s}, 0
}

// in: the node that stands in a spot.
func (f *FS) in(p spot) (*Node, api.Status) {
	e, there := p.dir.Names.Get(p.name)
	if !there {
		return nil, api.NoEnt
	}
	return f.find(e.ID)
}

// findIn: a spot and the node that stands there.
func (f *FS) findIn(c Caller, d int, s string) (spot, *Node, api.Status) {
	p, status := f.findSpot(c, d, s)
	if status != 0 {
		return spot{}, nil, status
	}
	n, status := f.in(p)
	return p, n, status
}

// lay: a node gets the name of a spot, which is free.
func (f *FS) lay(c Caller, p spot, n *Node) {
	p.dir.Names = names(p.dir)
	p.dir.Names.Add(p.name, n.ID)
	if n.Kind == attr.Dir {
		n.Parent = p.dir.ID
		p.dir.Links++
	}
	f.changed(c, p)
	f.meet(n.ID)
}

// take: a node loses the name of a spot.
func (f *FS) take(c Caller, p spot, n *Node) {
	p.dir.Names.Remove(p.name)
	if n.Kind == attr.Dir {
		p.dir.Links--
	}
	f.changed(c, p)
	f.meet(n.ID)
}

// changed: a directory is changed by a name.
func (f *FS) changed(c Caller, p spot) {
	p.dir.Size, _, _ = p.dir.Names.Len()
	p.dir.Modify, p.dir.Change = c.moment(), c.moment()
	f.meet(p.dir.ID, p.name)
}

// names: those of a directory, also of one that was loaded without any.
func names(n *Node) *dir.Dir {
	if n.Names == nil {
		return new(dir.Dir)
	}
	return n.Names
}
