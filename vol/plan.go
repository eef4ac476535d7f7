package vol

import (
	"cmp"
	"slices"

	"coracle/api"
	"coracle/attr"
	"coracle/core"
)

// What one Commit of the store takes, and how many bytes a change takes of it.
const (
	maxBody   = 3728
	endSize   = 4
	gaveSize  = 16                        // beside key and value
	goneSize  = 12                        // beside the key
	pieceSize = gaveSize + 16 + api.Piece // at most; the key has 13 bytes, which take 16
	atOnce    = (maxBody - endSize) / pieceSize
)

// plan is what must be changed in the store.
type plan struct {
	pieces []api.Change // of dirty files; they may be changed ahead of the rest, the first ones first
	rest   []api.Change // all at once
}

// planFor: what must be changed for what was met; can it be kept?
func (v *Vol) planFor(met []core.Met) (plan, bool) {
	p := plan{rest: []api.Change{lastChange(v.fs.Last(0))}}
	for _, m := range met {
		n, there := v.fs.Node(m.ID)
		switch {
		case m.Name != "":
			p.rest = append(p.rest, nameChange(n, m))
			continue
		case v.isDirty(m.ID):
			p.pieces = append(p.pieces, pieceChanges(n, m.ID)...)
		default:
			p.rest = append(p.rest, pieceChanges(n, m.ID)...)
		}
		c, ok := api.Change{Key: nodeKey(m.ID), Gone: true}, true
		if there {
			c, ok = nodeChange(n)
		}
		if !ok {
			return plan{}, false
		}
		p.rest = append(p.rest, c)
	}
	p.pieces, p.rest = v.lacking(p.pieces), v.lacking(p.rest)
	// Those that free room go first, so that those that need it find it.
	slices.SortStableFunc(p.pieces, func(a, b api.Change) int { return cmp.Compare(v.growth(a), v.growth(b)) })
	return p, true
}

// nameChange: what a name leads to now in its directory, which may be gone.
func nameChange(d core.Node, m core.Met) api.Change {
	e, there := d.Names.Get(m.Name)
	if !there {
		return api.Change{Key: entryKey(m.ID, m.Name), Gone: true}
	}
	return entryChange(m.ID, e)
}

// pieceChanges: all pieces of a node, which may be gone; only a regular file has any.
func pieceChanges(n core.Node, id int) []api.Change {
	data := ""
	if n.Kind == attr.Reg {
		data = n.Data
	}
	var changes []api.Change
	for piece := range allPieces {
		changes = append(changes, pieceChange(id, piece, data))
	}
	return changes
}

// lacking: those changes that the store hasn't made yet.
func (v *Vol) lacking(changes []api.Change) []api.Change {
	return slices.DeleteFunc(changes, func(c api.Change) bool {
		value, there := v.store.Get(c.Key)
		return there != c.Gone && value == c.Value
	})
}

// ahead: how many pieces must go ahead, so that the others fit into one Commit with the rest (if all of them do).
func (p plan) ahead() int {
	n := 0
	for n < len(p.pieces) && bodySize(p.pieces[n:], p.rest) > maxBody {
		n = min(n+atOnce, len(p.pieces))
	}
	return n
}

func bodySize(lists ...[]api.Change) int {
	size := endSize
	for _, c := range slices.Concat(lists...) {
		size += sizeOf(c)
	}
	return size
}

// sizeOf: how many bytes a change takes.
func sizeOf(c api.Change) int {
	if c.Gone {
		return goneSize + inFours(c.Key)
	}
	return gaveSize + inFours(c.Key) + inFours(c.Value)
}

// inFours: a text's length, rounded up to a multiple of four.
func inFours(text string) int { return (len(text) + 3) &^ 3 }

// full: has the store no room for these changes?
func (v *Vol) full(changes []api.Change) bool {
	last := map[string]api.Change{}
	for _, c := range changes {
		last[c.Key] = c
	}
	live, room := v.store.Bytes()
	behind := live
	for _, c := range last {
		behind += v.growth(c)
	}
	return behind > max(room, live)
}

// growth: how many bytes more would live behind a change.
func (v *Vol) growth(c api.Change) int {
	size := 0
	if !c.Gone {
		size = sizeOf(c)
	}
	if value, there := v.store.Get(c.Key); there {
		size -= sizeOf(api.Change{Key: c.Key, Value: value})
	}
	return size
}
