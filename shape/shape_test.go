package shape_test

import (
	"math"
	"slices"
	"testing"

	"coracle/api"
	"coracle/attr"
	"coracle/schema"
	"coracle/shape"
)

const (
	nfs   = 100003
	mount = 100005
)

// row is a procedure: its forms, written out, and whether it changes anything.
type row struct {
	name, asked, answered string
	changes               bool
}

const (
	noChange = false
	change   = true
)

var nfsRows = []row{
	{"NULL", "", "", noChange},
	{"GETATTR", "o64", "<0:uuuuuqquuqquuuuuu,-:>", noChange},
	{"SETATTR", "o64?(u)?(u)?(u)?(q)<0:,1:,2:uu><0:,1:,2:uu>?(uu)", "<0:?(quuuu)?(uuuuuqquuqquuuuuu),-:?(quuuu)?(uuuuuqquuqquuuuuu)>", change},
	{"LOOKUP", "o64o255", "<0:o64?(uuuuuqquuqquuuuuu)?(uuuuuqquuqquuuuuu),-:?(uuuuuqquuqquuuuuu)>", noChange},
	{"ACCESS", "o64u", "<0:?(uuuuuqquuqquuuuuu)u,-:?(uuuuuqquuqquuuuuu)>", noChange},
	{"READLINK", "o64", "<0:?(uuuuuqquuqquuuuuu)o1024,-:?(uuuuuqquuqquuuuuu)>", noChange},
	{"READ", "o64qu", "<0:?(uuuuuqquuqquuuuuu)ubo512,-:?(uuuuuqquuqquuuuuu)>", noChange},
	{"WRITE", "o64quuo512", "<0:?(quuuu)?(uuuuuqquuqquuuuuu)uuf8,-:?(quuuu)?(uuuuuqquuqquuuuuu)>", change},
	{"CREATE", "o64o255<0:?(u)?(u)?(u)?(q)<0:,1:,2:uu><0:,1:,2:uu>,1:?(u)?(u)?(u)?(q)<0:,1:,2:uu><0:,1:,2:uu>,2:f8>", "<0:?(o64)?(uuuuuqquuqquuuuuu)?(quuuu)?(uuuuuqquuqquuuuuu),-:?(quuuu)?(uuuuuqquuqquuuuuu)>", change},
	{"MKDIR", "o64o255?(u)?(u)?(u)?(q)<0:,1:,2:uu><0:,1:,2:uu>", "<0:?(o64)?(uuuuuqquuqquuuuuu)?(quuuu)?(uuuuuqquuqquuuuuu),-:?(quuuu)?(uuuuuqquuqquuuuuu)>", change},
	{"SYMLINK", "o64o255?(u)?(u)?(u)?(q)<0:,1:,2:uu><0:,1:,2:uu>o1024", "<0:?(o64)?(uuuuuqquuqquuuuuu)?(quuuu)?(uuuuuqquuqquuuuuu),-:?(quuuu)?(uuuuuqquuqquuuuuu)>", change},
	{"MKNOD", "o64o255<3:?(u)?(u)?(u)?(q)<0:,1:,2:uu><0:,1:,2:uu>uu,4:?(u)?(u)?(u)?(q)<0:,1:,2:uu><0:,1:,2:uu>uu,6:?(u)?(u)?(u)?(q)<0:,1:,2:uu><0:,1:,2:uu>,7:?(u)?(u)?(u)?(q)<0:,1:,2:uu><0:,1:,2:uu>,-:>", "<0:?(o64)?(uuuuuqquuqquuuuuu)?(quuuu)?(uuuuuqquuqquuuuuu),-:?(quuuu)?(uuuuuqquuqquuuuuu)>", change},
	{"REMOVE", "o64o255", "<0:?(quuuu)?(uuuuuqquuqquuuuuu),-:?(quuuu)?(uuuuuqquuqquuuuuu)>", change},
	{"RMDIR", "o64o255", "<0:?(quuuu)?(uuuuuqquuqquuuuuu),-:?(quuuu)?(uuuuuqquuqquuuuuu)>", change},
	{"RENAME", "o64o255o64o255", "<0:?(quuuu)?(uuuuuqquuqquuuuuu)?(quuuu)?(uuuuuqquuqquuuuuu),-:?(quuuu)?(uuuuuqquuqquuuuuu)?(quuuu)?(uuuuuqquuqquuuuuu)>", change},
	{"LINK", "o64o64o255", "<0:?(uuuuuqquuqquuuuuu)?(quuuu)?(uuuuuqquuqquuuuuu),-:?(uuuuuqquuqquuuuuu)?(quuuu)?(uuuuuqquuqquuuuuu)>", change},
	{"READDIR", "o64qf8u", "<0:?(uuuuuqquuqquuuuuu)f8*(qo255q)b,-:?(uuuuuqquuqquuuuuu)>", noChange},
	{"READDIRPLUS", "o64qf8uu", "<0:?(uuuuuqquuqquuuuuu)f8*(qo255q?(uuuuuqquuqquuuuuu)?(o64))b,-:?(uuuuuqquuqquuuuuu)>", noChange},
	{"FSSTAT", "o64", "<0:?(uuuuuqquuqquuuuuu)qqqqqqu,-:?(uuuuuqquuqquuuuuu)>", noChange},
	{"FSINFO", "o64", "<0:?(uuuuuqquuqquuuuuu)uuuuuuuquuu,-:?(uuuuuqquuqquuuuuu)>", noChange},
	{"PATHCONF", "o64", "<0:?(uuuuuqquuqquuuuuu)uubbbb,-:?(uuuuuqquuqquuuuuu)>", noChange},
	{"COMMIT", "o64qu", "<0:?(quuuu)?(uuuuuqquuqquuuuuu)f8,-:?(quuuu)?(uuuuuqquuqquuuuuu)>", noChange},
}

var mountRows = []row{
	{"NULL", "", "", noChange},
	{"MNT", "o1024", "<0:o64<1:u>,-:>", change},
	{"DUMP", "", "*(o255o1024)", noChange},
	{"UMNT", "o1024", "", change},
	{"UMNTALL", "", "", change},
	{"EXPORT", "", "*(o1024*(o255))", noChange},
}

// rowsOf: those of a program, none of another.
func rowsOf(prog int) []row {
	switch prog {
	case nfs:
		return nfsRows
	case mount:
		return mountRows
	}
	return nil
}

var (
	programs   = []int{nfs, mount, 100004, 100002, 100006, 100000, 0, 3, -nfs, nfs + 1<<32, math.MinInt, math.MaxInt}
	procedures = []int{-1, -2, 22, 23, 100, 1 << 32, 1<<32 + 1, math.MinInt, math.MinInt + 1, math.MaxInt}
)

// P10.1: all forms, and each of them is one of layer 2.
func TestOf(t *testing.T) {
	for _, prog := range []int{nfs, mount} {
		for proc, r := range rowsOf(prog) {
			asked, answered, ok := shape.Of(prog, proc)
			if asked != r.asked || !ok {
				t.Errorf("%s is asked %s, %v", r.name, asked, ok)
			}
			if answered != r.answered || !ok {
				t.Errorf("%s answers %s, %v", r.name, answered, ok)
			}
			if !schema.Check(asked) || !schema.Check(answered) {
				t.Errorf("%s: no forms of layer 2", r.name)
			}
		}
	}
}

// P10.1: there is no such procedure.
func TestOfNone(t *testing.T) {
	for _, prog := range programs {
		all := len(rowsOf(prog))
		for _, proc := range append(upward(40), procedures...) {
			if 0 <= proc && proc < all {
				continue
			}
			if asked, answered, ok := shape.Of(prog, proc); asked != "" || answered != "" || ok {
				t.Errorf("Of(%d, %d): %q %q %v", prog, proc, asked, answered, ok)
			}
		}
	}
}

// P10.2: those that change something, and no others.
func TestChanges(t *testing.T) {
	for _, prog := range programs {
		rows := rowsOf(prog)
		for _, proc := range append(upward(40), procedures...) {
			want := 0 <= proc && proc < len(rows) && rows[proc].changes
			if shape.Changes(prog, proc) != want {
				t.Errorf("Changes(%d, %d): not %v", prog, proc, want)
			}
		}
	}
}

// upward: the numbers from 0 to n - 1.
func upward(n int) []int {
	var all []int
	for i := range n {
		all = append(all, i)
	}
	return all
}

// held: does a form hold just this value, there and back?
func held(t *testing.T, form string, v api.Value) {
	t.Helper()
	s, e := schema.Encode(form, v)
	if e != api.OK {
		t.Errorf("%v by %s: %v", v, form, e)
		return
	}
	if w, e := schema.Decode(form, s); e != api.OK || !slices.Equal(w.N, v.N) || !slices.Equal(w.T, v.T) {
		t.Errorf("%q by %s: %v, %v", s, form, w, e)
	}
}

// joined: several rows of numbers as one.
func joined(rows ...[]int) []int {
	var all []int
	for _, r := range rows {
		all = append(all, r...)
	}
	return all
}

// P10.1: values as the procedures have them.
func TestValues(t *testing.T) {
	file := attr.Put(attr.Attr{Kind: attr.Reg, Mode: 0644, Size: math.MaxInt})
	set := attr.PutSet(attr.Set{HasMode: true, Mode: 0600, HowModify: 2})
	perhaps := joined([]int{1}, file)
	both := joined([]int{1, 9, 1, 2, 3, 4}, perhaps)
	form := func(proc, which int) string {
		asked, answered, _ := shape.Of(nfs, proc)
		return [2]string{asked, answered}[which]
	}
	held(t, form(1, 1), api.Value{N: joined([]int{0}, file)})
	held(t, form(1, 1), api.Value{N: []int{int(api.Stale)}})
	held(t, form(2, 0), api.Value{N: joined(set, []int{1, 5, 6}), T: []string{"handle"}})
	held(t, form(2, 1), api.Value{N: joined([]int{int(api.NotSync)}, both)})
	held(t, form(3, 1), api.Value{N: joined([]int{0}, perhaps, []int{0}), T: []string{"handle"}})
	held(t, form(6, 1), api.Value{N: joined([]int{0}, perhaps, []int{3, 1}), T: []string{"abc"}})
	held(t, form(7, 0), api.Value{N: []int{0, 3, 2}, T: []string{"handle", "abc"}})
	held(t, form(8, 0), api.Value{N: joined([]int{1}, set), T: []string{"handle", "name"}})
	held(t, form(8, 0), api.Value{N: []int{2}, T: []string{"handle", "name", "verifier"}})
	held(t, form(11, 0), api.Value{N: joined([]int{attr.Chr}, set, []int{1, 2}), T: []string{"handle", "name"}})
	held(t, form(11, 0), api.Value{N: []int{attr.Reg}, T: []string{"handle", "name"}})
	held(t, form(14, 1), api.Value{N: joined([]int{int(api.Exist)}, both, []int{0, 0})})
	held(t, form(17, 1), api.Value{N: joined([]int{0, 0, 1, 7, 8}, perhaps, []int{1, 1}), T: []string{"verifier", "name", "handle"}})
}
