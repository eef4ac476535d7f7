package vol

import (
	"slices"

	"coracle/api"
	"coracle/attr"
	"coracle/core"
	"coracle/dir"
	"coracle/schema"
	"coracle/store"
)

const root = 1 // the number of the directory that has no name

// taker puts a file system together from what is kept of it. Pairs are taken only if they would be laid out just so.
type taker struct {
	nodes map[int]*core.Node
	data  map[int][]byte // of regular files
}

// taken: the file system that is kept in a store; is there one?
func taken(s *store.Store) (*core.FS, bool) {
	last, ok := lastOf(s)
	if !ok {
		return nil, false
	}
	t := taker{nodes: map[int]*core.Node{}, data: map[int][]byte{}}
	if !all(s, nodeMark, t.node) || !all(s, entryMark, t.entry) || !all(s, pieceMark, t.piece) {
		return nil, false
	}
	if top := t.nodes[root]; top == nil || top.Kind != attr.Dir {
		return nil, false
	}
	return t.fs(last), true
}

// lastOf: the greatest number that was given; is it kept?
func lastOf(s *store.Store) (int, bool) {
	pairs := s.Range(lastMark, behind(lastMark))
	if len(pairs) != 1 || pairs[0].Key != lastMark {
		return 0, false
	}
	numbers, ok := numbersOf(numberForm, pairs[0].Value)
	if !ok {
		return 0, false
	}
	return numbers[0], true
}

// behind: the mark that comes next, with which no key of this one begins.
func behind(mark string) string { return string(mark[0] + 1) }

// all: can all pairs whose keys begin with a mark be taken?
func all(s *store.Store, mark string, take func(api.Change) bool) bool {
	return !slices.ContainsFunc(s.Range(mark, behind(mark)), func(c api.Change) bool { return !take(c) })
}

func (t taker) node(c api.Change) bool {
	v, e := schema.Decode(nodeForm, c.Value)
	if e != api.OK {
		return false
	}
	known, rest, _ := attr.Get(v.N)
	n := &core.Node{Attr: known, Verf: v.T[0]}
	switch n.Kind {
	case attr.Dir:
		n.Parent, n.Names = rest[0], new(dir.Dir)
		n.Names.Least(rest[1])
	case attr.Lnk:
		n.Data = v.T[1]
	}
	if again, _ := nodeChange(*n); again != c {
		return false
	}
	if n.Kind == attr.Reg {
		t.data[n.ID] = make([]byte, n.Size)
	}
	t.nodes[n.ID] = n
	return true
}

func (t taker) entry(c api.Change) bool {
	at := len(entryMark) + numberSize
	if len(c.Key) < at {
		return false
	}
	owner, _ := numbersOf(numberForm, c.Key[len(entryMark):at])
	leads, ok := numbersOf(entryForm, c.Value)
	if !ok {
		return false
	}
	d, to := t.nodes[owner[0]], t.nodes[leads[0]]
	if d == nil || to == nil {
		return false
	}
	return d.Names.Put(dir.Entry{Name: c.Key[at:], ID: leads[0], Cookie: leads[1]})
}

// piece: one behind the end of its file, or without a file, was kept ahead of a node that wasn't, and doesn't count.
func (t taker) piece(c api.Change) bool {
	place, ok := numbersOf(placeForm, c.Key[len(pieceMark):])
	if !ok {
		return false
	}
	id, piece := place[0], place[1]
	n, there := t.nodes[id]
	if there && n.Kind != attr.Reg || piece >= allPieces || c.Value == "" || c.Value != pieceOf(c.Value, 0) {
		return false
	}
	data := t.data[id]
	copy(data[min(piece*api.Piece, len(data)):], c.Value)
	return true
}

// fs: the file system of what was taken.
func (t taker) fs(last int) *core.FS {
	f := core.New(0) // its root gives way to the one that was taken
	for id, n := range t.nodes {
		if data, there := t.data[id]; there {
			n.Data = string(data)
		}
		f.Load(*n)
	}
	f.Last(last)
	f.Met()
	return f
}

// others: the pairs of the caller's keys.
func others(s *store.Store) []api.Change {
	return slices.DeleteFunc(s.Range("", ""), func(c api.Change) bool { return ours(c.Key) })
}
