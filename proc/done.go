package proc

import "coracle/api"

// done: what a call answers that goes well; beside a status other than 0 no value counts.
func (k *call) done() (api.Value, api.Status) {
	for _, f := range k.files {
		if f.status != 0 {
			return api.Value{}, f.status
		}
	}
	switch k.proc {
	case getAttr:
		return k.getAttr()
	case setAttr:
		return k.setAttr()
	case lookup:
		return k.lookup()
	case access:
		return k.access()
	case readLink:
		return k.readLink()
	case read:
		return k.read()
	case write:
		return k.write()
	case create:
		return k.made(k.create())
	case makeDir:
		return k.made(k.makeDir())
	case makeLink:
		return k.made(k.makeLink())
	case makeNode:
		return k.made(k.makeNode())
	case remove, removeDir, rename, link:
		return k.namesChanged()
	case readDir, readDirPlus:
		return k.readDir()
	case commit:
		return k.commit()
	}
	return k.facts(), 0
}
