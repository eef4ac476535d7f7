package core

import (
	"slices"

	"coracle/api"
	"coracle/attr"
)

// What Access tells of, as RFC 1813 numbers it.
const (
	accessRead    = 1
	accessLookup  = 2
	accessModify  = 4
	accessExtend  = 8
	accessDelete  = 16
	accessExecute = 32
)

// How a Set has a moment.
const (
	howNow  = 1
	howTold = 2
)

const modeBits = 07777

// Access: which of some things may be done.
func (f *FS) Access(c Caller, id, bits int) (int, api.Status) {
	n, status := f.find(id)
	if status != 0 {
		return 0, status
	}
	writing, passing := accessModify|accessExtend, accessExecute
	if n.Kind == attr.Dir {
		writing, passing = writing|accessDelete, accessLookup
	}
	var granted int
	if c.may(n, mayRead) {
		granted |= accessRead
	}
	if c.may(n, mayWrite) {
		granted |= writing
	}
	if c.may(n, mayPass) {
		granted |= passing
	}
	return bits & granted, 0
}

// SetAttr: changes what is known of a file.
func (f *FS) SetAttr(c Caller, id int, s attr.Set, guard []attr.Time) api.Status {
	n, status := f.find(id)
	if status == 0 && len(guard) > 0 && guard[0] != n.Change {
		status = api.NotSync
	}
	if status == 0 {
		status = c.maySet(n, s)
	}
	if status != 0 {
		return status
	}
	c.set(n, s)
	f.meet(id)
	return 0
}

// maySet: why the caller may not set that of a node.
func (c Caller) maySet(n *Node, s attr.Set) api.Status {
	if s.HasMode && !c.owns(n) || s.HasUID && !c.mayGive(n, s.UID) || s.HasGID && !c.mayShare(n, s.GID) {
		return api.Perm
	}
	if status := c.maySize(n, s); status != 0 {
		return status
	}
	for _, how := range []int{s.HowAccess, s.HowModify} {
		switch {
		case how == howTold && !c.owns(n):
			return api.Perm
		case how == howNow && !c.ownsOrMay(n, mayWrite):
			return api.Acces
		}
	}
	return 0
}

// mayGive: to an owner?
func (c Caller) mayGive(n *Node, uid int) bool {
	return c.UID == 0 || c.owns(n) && uid == n.UID
}

// mayShare: with a group?
func (c Caller) mayShare(n *Node, gid int) bool {
	return c.owns(n) && (c.UID == 0 || gid == n.GID || gid == c.GID || slices.Contains(c.Groups, gid))
}

// maySize: why the caller may not make a node so long as it should be.
func (c Caller) maySize(n *Node, s attr.Set) api.Status {
	if !s.HasSize {
		return 0
	}
	if !c.ownsOrMay(n, mayWrite) {
		return api.Acces
	}
	if status := regular(n); status != 0 {
		return status
	}
	return canSize(s)
}

// canSize: why no file can be so long.
func canSize(s attr.Set) api.Status {
	switch {
	case s.HasSize && s.Size < 0:
		return api.Inval
	case s.HasSize && s.Size > api.MaxFile:
		return api.FBig
	}
	return 0
}

// set: whether the caller may or not.
func (c Caller) set(n *Node, s attr.Set) {
	if s.HasMode {
		n.Mode = s.Mode & modeBits
	}
	if s.HasUID {
		n.UID = s.UID
	}
	if s.HasGID {
		n.GID = s.GID
	}
	n.Change = c.moment()
	if s.HasSize && s.Size != n.Size {
		n.hold(resized(n.Data, s.Size))
		n.Modify = c.moment()
	}
	n.Access = c.chosen(s.HowAccess, s.Access, n.Access)
	n.Modify = c.chosen(s.HowModify, s.Modify, n.Modify)
}

// chosen: the moment that a How means.
func (c Caller) chosen(how int, told, old attr.Time) attr.Time {
	switch how {
	case howNow:
		return c.moment()
	case howTold:
		return told
	}
	return old
}
