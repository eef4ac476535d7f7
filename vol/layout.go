package vol

import (
	"cmp"
	"strings"

	"coracle/api"
	"coracle/attr"
	"coracle/core"
	"coracle/dir"
	"coracle/schema"
)

// The bytes with which the file system's keys begin; all other keys are the caller's.
const (
	lastMark  = "s"
	nodeMark  = "i"
	entryMark = "e"
	pieceMark = "d"
	allMarks  = lastMark + nodeMark + entryMark + pieceMark
)

// The forms of what stands in keys and values.
const (
	numberForm = "q"
	placeForm  = "qu" // of a piece: its file's number, and its own
	entryForm  = "qq"
	nodeForm   = "qqqqqqqqqqqqqqqqqqqo64o256"
)

const (
	numberSize = 8
	allPieces  = api.MaxFile / api.Piece
)

// ours: is it the file system's key?
func ours(key string) bool { return key != "" && strings.Contains(allMarks, key[:1]) }

// laid: the bytes of numbers, of which the form takes any.
func laid(form string, numbers ...int) string {
	text, _ := schema.Encode(form, api.Value{N: numbers})
	return text
}

// numbersOf: the numbers of which these are the bytes; are there such?
func numbersOf(form, text string) ([]int, bool) {
	v, e := schema.Decode(form, text)
	return v.N, e == api.OK
}

// lastChange: the greatest number that was given.
func lastChange(last int) api.Change {
	return api.Change{Key: lastMark, Value: laid(numberForm, last)}
}

func nodeKey(id int) string { return nodeMark + laid(numberForm, id) }

// nodeChange: a node; can it be kept? Not, where a text of it is too long, or a regular file (which no call makes, but it may be loaded).
func nodeChange(n core.Node) (api.Change, bool) {
	parent, next, link := 0, 0, ""
	switch n.Kind {
	case attr.Reg:
		if n.Size < 0 || n.Size > api.MaxFile {
			return api.Change{}, false
		}
	case attr.Dir:
		names := cmp.Or(n.Names, new(dir.Dir)) // one that was loaded without any is an empty one
		parent, next = n.Parent, names.Next()
	case attr.Lnk:
		link = n.Data
	}
	v := api.Value{N: append(attr.Put(n.Attr), parent, next), T: []string{n.Verf, link}}
	text, e := schema.Encode(nodeForm, v)
	return api.Change{Key: nodeKey(n.ID), Value: text}, e == api.OK
}

func entryKey(d int, name string) string { return entryMark + laid(numberForm, d) + name }

// entryChange: a name of a directory.
func entryChange(d int, e dir.Entry) api.Change {
	return api.Change{Key: entryKey(d, e.Name), Value: laid(entryForm, e.ID, e.Cookie)}
}

// pieceChange: a piece of a file's bytes.
func pieceChange(id, piece int, data string) api.Change {
	text := pieceOf(data, piece)
	return api.Change{Key: pieceMark + laid(placeForm, id, piece), Value: text, Gone: text == ""}
}

// pieceOf: the bytes of a piece, without noughts at their end.
func pieceOf(data string, piece int) string {
	from := min(piece*api.Piece, len(data))
	to := min(from+api.Piece, len(data))
	return strings.TrimRight(data[from:to], "\x00")
}
