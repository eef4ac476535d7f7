package proc

import (
	"slices"

	"coracle/api"
	"coracle/attr"
)

// exclusive is the way to create for which a verifier stands in the place of a Set.
const exclusive = 2

func (k *call) lookup() (api.Value, api.Status) {
	id, status := k.Lookup(k.Caller, k.id(0), k.text(1))
	return results(0, append(k.perhaps(id), k.known()...), handleOf(id)), status
}

func (k *call) create() (int, api.Status) {
	how := k.args.N[0]
	if how == exclusive {
		return k.Create(k.Caller, k.id(0), k.text(1), how, attr.Set{}, k.text(2))
	}
	set, _, _ := attr.GetSet(k.args.N[1:])
	return k.Create(k.Caller, k.id(0), k.text(1), how, set, "")
}

func (k *call) makeDir() (int, api.Status) {
	set, _, _ := attr.GetSet(k.args.N)
	return k.Make(k.Caller, k.id(0), k.text(1), attr.Dir, set, "", 0, 0)
}

func (k *call) makeLink() (int, api.Status) {
	set, _, _ := attr.GetSet(k.args.N)
	return k.Make(k.Caller, k.id(0), k.text(1), attr.Lnk, set, k.text(2), 0, 0)
}

func (k *call) makeNode() (int, api.Status) {
	kind := k.args.N[0]
	set, rest, _ := attr.GetSet(k.args.N[1:])
	switch kind {
	case attr.Blk, attr.Chr:
		return k.Make(k.Caller, k.id(0), k.text(1), kind, set, "", rest[0], rest[1])
	case attr.Sock, attr.Fifo:
		return k.Make(k.Caller, k.id(0), k.text(1), kind, set, "", 0, 0)
	}
	return 0, api.BadType
}

// made: what is answered of a new file.
func (k *call) made(id int, status api.Status) (api.Value, api.Status) {
	return results(0, slices.Concat([]int{1}, k.perhaps(id), k.known()), handleOf(id)), status
}

// namesChanged: what is answered where names are all that changes.
func (k *call) namesChanged() (api.Value, api.Status) {
	status := k.changeNames()
	return results(0, k.known()), status
}

func (k *call) changeNames() api.Status {
	switch k.proc {
	case remove:
		return k.Remove(k.Caller, k.id(0), k.text(1))
	case removeDir:
		return k.Rmdir(k.Caller, k.id(0), k.text(1))
	case link:
		return k.Link(k.Caller, k.id(0), k.id(1), k.text(2))
	}
	return k.Rename(k.Caller, k.id(0), k.text(1), k.id(1), k.text(3))
}
