package vol

import (
	"slices"

	"coracle/api"
	"coracle/core"
)

// keep: what was met is kept, with changes of the caller's keys.
func (v *Vol) keep(met []core.Met, more []api.Change) api.Errno {
	e := v.write(met, more)
	switch e {
	case api.OK:
		for _, m := range met {
			delete(v.dirty, m.ID)
		}
		v.settled = v.fs.Clone()
	case api.ErrPower:
		v.lost = true
	default:
		v.fs = v.settled.Clone()
	}
	return e
}

// write: keep, as far as the store goes.
func (v *Vol) write(met []core.Met, more []api.Change) api.Errno {
	p, ok := v.planFor(met)
	if !ok || slices.ContainsFunc(more, func(c api.Change) bool { return ours(c.Key) }) {
		return api.ErrArg
	}
	p.rest = append(p.rest, more...)
	e := v.commit(p)
	if e == api.OK && v.lost { // the store has nothing against a Commit of nothing
		return api.ErrPower
	}
	return e
}

// commit: all at once, if it fits; else pieces go ahead. Not so, where the rest would be refused: of what is refused nothing must be found later.
func (v *Vol) commit(p plan) api.Errno {
	all := slices.Concat(p.pieces, p.rest)
	e := v.store.Commit(all...)
	if e != api.ErrLong {
		return e
	}
	ahead := p.ahead()
	if bodySize(all[ahead:]) > maxBody {
		return api.ErrLong
	}
	if v.full(all[:ahead]) || v.full(all) {
		return api.ErrFull
	}
	for pieces := range slices.Chunk(all[:ahead], atOnce) {
		if e := v.store.Commit(pieces...); e != api.OK {
			return e
		}
	}
	return v.store.Commit(all[ahead:]...)
}
