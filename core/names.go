package core

import (
	"coracle/api"
	"coracle/attr"
	"coracle/dir"
	"coracle/name"
)

// The cookies of the names that each directory has besides its own.
const (
	selfCookie   = 1
	parentCookie = 2
)

// Lookup: what a name leads to.
func (f *FS) Lookup(c Caller, d int, s string) (int, api.Status) {
	n, status := f.findDir(c, d, mayPass)
	if status != 0 {
		return 0, status
	}
	switch s {
	case ".":
		return d, 0
	case "..":
		return n.Parent, 0
	}
	if status := name.Check(s); status != 0 {
		return 0, status
	}
	e, there := n.Names.Get(s)
	if !there {
		return 0, api.NoEnt
	}
	return e.ID, 0
}

// Remove: takes a name of what isn't a directory.
func (f *FS) Remove(c Caller, d int, s string) api.Status {
	p, n, status := f.findIn(c, d, s)
	if status == 0 && n.Kind == attr.Dir {
		status = api.IsDir
	}
	if status != 0 {
		return status
	}
	f.lose(c, p, n)
	return 0
}

// Rmdir: takes an empty directory.
func (f *FS) Rmdir(c Caller, d int, s string) api.Status {
	p, n, status := f.findIn(c, d, s)
	switch {
	case status != 0:
		return status
	case n.Kind != attr.Dir:
		return api.NotDir
	case !empty(n):
		return api.NotEmpty
	}
	f.lose(c, p, n)
	return 0
}

func empty(n *Node) bool {
	size, _, _ := n.Names.Len()
	return size == 0
}

// lose: a node has a name less, and is gone with its last one.
func (f *FS) lose(c Caller, p spot, n *Node) {
	f.take(c, p, n)
	n.Links--
	n.Change = c.moment()
	if n.Kind == attr.Dir || n.Links < 1 {
		delete(f.nodes, n.ID)
	}
}

// Rename: gives another name.
func (f *FS) Rename(c Caller, d int, s string, to int, t string) api.Status {
	from, status := f.findSpot(c, d, s)
	if status != 0 {
		return status
	}
	onto, status := f.findSpot(c, to, t)
	if status != 0 {
		return status
	}
	n, status := f.in(from)
	switch {
	case status != 0:
		return status
	case n.Kind == attr.Dir && f.below(to, n.ID):
		return api.Inval
	}
	if old, status := f.in(onto); status != api.NoEnt {
		if status == 0 {
			status = replaces(n, old)
		}
		if status != 0 || old == n {
			return status
		}
		f.lose(c, onto, old)
	}
	f.take(c, from, n)
	n.Change = c.moment()
	f.lay(c, onto, n)
	return 0
}

// below: is a directory another one, or below it?
func (f *FS) below(d, above int) bool {
	// Parents that were loaded may go round; no way up is longer than there are nodes.
	for range len(f.nodes) {
		if d == above {
			return true
		}
		n, status := f.find(d)
		if status != 0 || n.Parent == d {
			return false
		}
		d = n.Parent
	}
	return false
}

// replaces: why a node can't take the name of an old one.
func replaces(n, old *Node) api.Status {
	switch {
	case n == old:
		return 0
	case (n.Kind == attr.Dir) != (old.Kind == attr.Dir):
		return api.Exist
	case !empty(old):
		return api.NotEmpty
	}
	return 0
}

// Link: gives one name more.
func (f *FS) Link(c Caller, id, d int, s string) api.Status {
	n, status := f.find(id)
	if status != 0 {
		return status
	}
	p, status := f.findSpot(c, d, s)
	if status != 0 {
		return status
	}
	_, there := p.dir.Names.Get(s)
	switch {
	case n.Kind == attr.Dir:
		return api.IsDir
	case there:
		return api.Exist
	case n.Links >= api.MaxLinks:
		return api.MLink
	}
	n.Links++
	n.Change = c.moment()
	f.lay(c, p, n)
	return 0
}

// Readdir: the names behind a cookie, so many; whether that are all.
func (f *FS) Readdir(c Caller, d, cookie, n int) ([]dir.Entry, bool, api.Status) {
	at, status := f.findDir(c, d, mayRead)
	if status == 0 && (cookie < 0 || cookie >= names(at).Next()) {
		status = api.BadCookie
	}
	if status != 0 {
		return nil, false, status
	}
	var l []dir.Entry
	for _, e := range []dir.Entry{{Name: ".", ID: d, Cookie: selfCookie}, {Name: "..", ID: at.Parent, Cookie: parentCookie}} {
		if e.Cookie > cookie && len(l) < n {
			l = append(l, e)
		}
	}
	l = append(l, at.Names.After(cookie, n-len(l))...)
	if len(l) > 0 {
		cookie = l[len(l)-1].Cookie
	}
	return l, cookie >= parentCookie && len(at.Names.After(cookie, 1)) == 0, 0
}
