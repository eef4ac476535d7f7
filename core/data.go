package core

import (
	"strings"

	"coracle/api"
	"coracle/attr"
)

// Read: bytes of a regular file; whether it ends there.
func (f *FS) Read(c Caller, id, offset, n int) (string, bool, api.Status) {
	file, status := f.findRegular(c, id, mayRead)
	if status == 0 && (offset < 0 || n < 0) {
		status = api.Inval
	}
	if status != 0 {
		return "", false, status
	}
	behind := file.Data[min(offset, len(file.Data)):]
	return behind[:min(n, len(behind))], n >= len(behind), 0
}

// Readlink: what a symbolic link says.
func (f *FS) Readlink(c Caller, id int) (string, api.Status) {
	n, status := f.find(id)
	if status != 0 {
		return "", status
	}
	if n.Kind != attr.Lnk {
		return "", api.Inval
	}
	return n.Data, 0
}

// Write: writes bytes of a file.
func (f *FS) Write(c Caller, id, offset int, data string) api.Status {
	file, status := f.findRegular(c, id, mayWrite)
	switch {
	case status != 0:
		return status
	case offset < 0:
		return api.Inval
	case offset > api.MaxFile-len(data):
		return api.FBig
	case data == "":
		return 0
	}
	file.hold(written(file.Data, offset, data))
	file.Modify, file.Change = c.moment(), c.moment()
	f.meet(id)
	return 0
}

// findRegular: the regular file of a number, with which the caller may do what bits tell.
func (f *FS) findRegular(c Caller, id, bits int) (*Node, api.Status) {
	n, status := f.find(id)
	if status == 0 {
		status = regular(n)
	}
	if status == 0 && !c.ownsOrMay(n, bits) {
		status = api.Acces
	}
	return n, status
}

// regular: why a node isn't a regular file.
func regular(n *Node) api.Status {
	switch n.Kind {
	case attr.Reg:
		return 0
	case attr.Dir:
		return api.IsDir
	}
	return api.Inval
}

// hold: the node has these bytes.
func (n *Node) hold(data string) {
	n.Data, n.Size = data, len(data)
	n.Used = (len(data) + api.Piece - 1) / api.Piece * api.Piece
}

// resized: bytes that are cut, or have noughts behind them, so that they are so many.
func resized(data string, size int) string {
	if size <= len(data) {
		return data[:size]
	}
	return data + strings.Repeat("\x00", size-len(data))
}

// written: bytes with others in their place from offset on.
func written(data string, offset int, with string) string {
	end := offset + len(with)
	return resized(data, offset) + with + data[min(end, len(data)):]
}
