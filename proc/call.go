package proc

import (
	"coracle/api"
	"coracle/attr"
	"coracle/core"
	"coracle/handle"
	"coracle/schema"
	"coracle/shape"
)

const (
	nfs  = 100003
	fsid = 1
)

// The procedures.
const (
	null = iota
	getAttr
	setAttr
	lookup
	access
	readLink
	read
	write
	create
	makeDir
	makeLink
	makeNode
	remove
	removeDir
	rename
	link
	readDir
	readDirPlus
	fsStat
	fsInfo
	pathConf
	commit
)

// call is a procedure that is asked for, with the file system that does it and who asks.
type call struct {
	*core.FS
	core.Caller
	env   Env
	proc  int
	args  api.Value
	files []file // by the handles among args
}

// file is what a handle leads to.
type file struct {
	id     int
	status api.Status // why it leads nowhere
	ahead  []int      // what W tells of the file as it was ahead of the call
}

// asked: the call of a procedure; false, where there is no such procedure, or these aren't its arguments.
func asked(f *core.FS, proc int, args api.Value) (*call, bool) {
	form, _, there := shape.Of(nfs, proc)
	if !there || proc == null {
		return nil, false
	}
	if _, e := schema.Encode(form, args); e != api.OK {
		return nil, false
	}
	k := &call{FS: f, proc: proc, args: args}
	for _, h := range handles(proc, args.T) {
		k.files = append(k.files, k.file(h))
	}
	return k, true
}

// handles: those among the texts of a procedure's arguments.
func handles(proc int, texts []string) []string {
	switch proc {
	case rename:
		return []string{texts[0], texts[2]}
	case link:
		return texts[:2]
	}
	return texts[:1]
}

func (k *call) file(h string) file {
	id, status := handle.Number(h)
	if status != 0 {
		return file{status: status, ahead: []int{0}}
	}
	n, there := k.Node(id)
	if !there {
		return file{status: api.Stale, ahead: []int{0}}
	}
	return file{id: id, ahead: []int{1, n.Size, n.Modify.S, n.Modify.N, n.Change.S, n.Change.N}}
}

func handleOf(id int) string { return handle.Put(fsid, id, id) }

func (k *call) id(which int) int { return k.files[which].id }

func (k *call) text(which int) string { return k.args.T[which] }

// perhaps: P of a number.
func (k *call) perhaps(id int) []int {
	n, there := k.Node(id)
	if !there {
		return []int{0}
	}
	return append([]int{1}, attr.Put(n.Attr)...)
}

// known: P or W of each handle, as it stands both in what went well and in what didn't.
func (k *call) known() []int {
	if k.proc == getAttr {
		return nil
	}
	var n []int
	for which, f := range k.files {
		if k.tellsAhead(which) {
			n = append(n, f.ahead...)
		}
		if f.status != 0 {
			n = append(n, 0)
			continue
		}
		n = append(n, k.perhaps(f.id)...)
	}
	return n
}

// tellsAhead: is W told of the file of a handle, and not P?
func (k *call) tellsAhead(which int) bool {
	if k.proc == link {
		return which == 1
	}
	return k.proc == commit || shape.Changes(nfs, k.proc)
}

// results: what is answered with a status.
func results(status api.Status, n []int, texts ...string) api.Value {
	return api.Value{N: append([]int{int(status)}, n...), T: texts}
}

func (k *call) refused(status api.Status) api.Value { return results(status, k.known()) }

// effect: of a call that went well.
func (k *call) effect() Effect {
	switch {
	case k.proc == commit:
		return Effect{Kind: Commit, ID: k.id(0)}
	case k.proc == write && k.args.N[2] == unstable:
		return Effect{Kind: Keep}
	case shape.Changes(nfs, k.proc):
		return Effect{Kind: Save}
	}
	return Effect{}
}
