package proc

import (
	"coracle/api"
	"coracle/attr"
	"coracle/handle"
)

// How bytes that are written last.
const (
	unstable = 0
	fileSync = 2
)

func (k *call) getAttr() (api.Value, api.Status) {
	n, _ := k.Node(k.id(0))
	return results(0, attr.Put(n.Attr)), 0
}

func (k *call) setAttr() (api.Value, api.Status) {
	set, rest, _ := attr.GetSet(k.args.N)
	var guard []attr.Time
	if rest[0] == 1 {
		guard = []attr.Time{{S: rest[1], N: rest[2]}}
	}
	status := k.SetAttr(k.Caller, k.id(0), set, guard)
	return results(0, k.known()), status
}

func (k *call) access() (api.Value, api.Status) {
	granted, status := k.Access(k.Caller, k.id(0), k.args.N[0])
	return results(0, append(k.known(), granted)), status
}

func (k *call) readLink() (api.Value, api.Status) {
	target, status := k.Readlink(k.Caller, k.id(0))
	return results(0, k.known(), target), status
}

func (k *call) read() (api.Value, api.Status) {
	offset, most := k.args.N[0], min(k.args.N[1], api.MaxData)
	data, end, status := k.Read(k.Caller, k.id(0), offset, most)
	return results(0, append(k.known(), len(data), flag(end)), data), status
}

func (k *call) write() (api.Value, api.Status) {
	offset, how, data := k.args.N[0], k.args.N[2], k.text(1)
	if how > fileSync {
		return api.Value{}, api.Inval
	}
	data = data[:min(k.args.N[1], len(data))]
	status := k.Write(k.Caller, k.id(0), offset, data)
	lasts := fileSync
	if how == unstable {
		lasts = unstable
	}
	return results(0, append(k.known(), len(data), lasts), handle.Verifier(k.env.Boot)), status
}

func (k *call) commit() (api.Value, api.Status) {
	n, _ := k.Node(k.id(0))
	switch n.Kind {
	case attr.Reg:
		return results(0, k.known(), handle.Verifier(k.env.Boot)), 0
	case attr.Dir:
		return api.Value{}, api.IsDir
	}
	return api.Value{}, api.Inval
}

func flag(b bool) int {
	if b {
		return 1
	}
	return 0
}
