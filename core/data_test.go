package core_test

import (
	"math"
	"strings"
	"testing"

	"coracle/api"
	"coracle/attr"
	"coracle/core"
)

// oneOfEach: a file system with a file of each kind, all of them joe's: of kind k at the number k + 1.
func oneOfEach(t *testing.T) *core.FS {
	t.Helper()
	f := core.New(5)
	create(t, f, joe, 1, "f")
	for kind := attr.Dir; kind <= attr.Fifo; kind++ {
		made(t)(f.Make(super, 1, "k"+string(rune('0'+kind)), kind, attr.Set{HasUID: true, UID: 7, HasGID: true, GID: 17}, "said", 3, 4))
	}
	return f
}

// P13.4: bytes from offset on, and whether they reach the end.
func TestRead(t *testing.T) {
	f := core.New(5)
	n := create(t, f, joe, 1, "n")
	write(t, f, n, "abcde")
	for _, c := range []struct {
		offset, n int
		want      string
		end       bool
	}{
		{0, 5, "abcde", true}, {0, 9, "abcde", true}, {0, 4, "abcd", false}, {0, 0, "", false}, {1, 3, "bcd", false}, {1, 4, "bcde", true},
		{4, 1, "e", true}, {4, 0, "", false}, {5, 0, "", true}, {5, 1, "", true}, {6, 0, "", true}, {6, 3, "", true},
		{math.MaxInt, math.MaxInt, "", true}, {2, math.MaxInt, "cde", true}, {math.MaxInt, 0, "", true},
	} {
		if s, end, status := f.Read(joe, n, c.offset, c.n); s != c.want || end != c.end || status != 0 {
			t.Errorf("Read(%d, %d): %q %v %d", c.offset, c.n, s, end, status)
		}
	}
	e := create(t, f, joe, 1, "empty")
	if s, end, status := f.Read(joe, e, 0, 0); s != "" || !end || status != 0 {
		t.Errorf("Read of none: %q %v %d", s, end, status)
	}
	if x := node(t, f, n); x.Access != at(8) {
		t.Errorf("Read changes %v", x.Attr)
	}
}

// refusedRead: nothing beside the status, and nothing met.
func refusedRead(t *testing.T, f *core.FS, c core.Caller, id, offset, n int, want api.Status) {
	t.Helper()
	same := unchanged(t, f)
	if s, end, status := f.Read(c, id, offset, n); s != "" || end || status != want {
		t.Errorf("Read(%d, %d, %d): %q %v %d, not %d", id, offset, n, s, end, status, want)
	}
	same()
}

func refusedWrite(t *testing.T, f *core.FS, c core.Caller, id, offset int, data string, want api.Status) {
	t.Helper()
	same := unchanged(t, f)
	if status := f.Write(c, id, offset, data); status != want {
		t.Errorf("Write(%d, %d, %d bytes): %d, not %d", id, offset, len(data), status, want)
	}
	same()
}

// P13.4: the statuses of Read and Write in their order.
func TestDataStatuses(t *testing.T) {
	f := oneOfEach(t)
	for id := 1; id < 10; id++ {
		var want api.Status
		switch {
		case id == 9:
			want = api.Stale
		case id == 1 || id == attr.Dir+1:
			want = api.IsDir
		case id != 2:
			want = api.Inval
		default:
			continue
		}
		for _, c := range []core.Caller{joe, ann, super} {
			refusedRead(t, f, c, id, 0, 1, want)
			refusedRead(t, f, c, id, -1, -1, want)
			refusedWrite(t, f, c, id, 0, "x", want)
			refusedWrite(t, f, c, id, -1, "", want)
			refusedWrite(t, f, c, id, 0, "", want)
		}
	}
	refusedRead(t, f, joe, 2, -1, 5, api.Inval)
	refusedRead(t, f, joe, 2, 5, -1, api.Inval)
	refusedRead(t, f, joe, 2, math.MinInt, math.MinInt, api.Inval)
	refusedWrite(t, f, joe, 2, -1, "x", api.Inval)
	refusedWrite(t, f, joe, 2, math.MinInt, "", api.Inval)
	refusedWrite(t, f, joe, 2, -1, strings.Repeat("x", 9000), api.Inval)
	chmod(t, f, 2, 0737)
	refusedRead(t, f, ann, 2, 0, 1, api.Acces)
	refusedRead(t, f, ann, 2, -1, 1, api.Acces)
	chmod(t, f, 2, 0757)
	refusedWrite(t, f, ann, 2, 0, "x", api.Acces)
	refusedWrite(t, f, ann, 2, 8192, "x", api.Acces)
	refusedWrite(t, f, ann, 2, 0, "", api.Acces)
	chmod(t, f, 2, 0)
	for _, c := range []core.Caller{joe, super} { // the owner may in any case
		is(t, "Write", f.Write(c, 2, 0, "x"), 0)
		if s, end, status := f.Read(c, 2, 0, 1); s != "x" || !end || status != 0 {
			t.Errorf("Read: %q %v %d", s, end, status)
		}
	}
	chmod(t, f, 2, 0060)
	is(t, "Write", f.Write(ann, 2, 0, "y"), 0)
	if s, _, status := f.Read(ann, 2, 0, 1); s != "y" || status != 0 {
		t.Errorf("Read: %q %d", s, status)
	}
}

// P13.4: what stands where it is written.
func TestWrite(t *testing.T) {
	for _, c := range []struct {
		before string
		offset int
		data   string
		want   string
	}{
		{"", 0, "ab", "ab"}, {"", 2, "ab", "\x00\x00ab"}, {"abc", 0, "x", "xbc"}, {"abc", 1, "xy", "axy"}, {"abc", 1, "x", "axc"},
		{"abc", 3, "x", "abcx"}, {"abc", 2, "xyz", "abxyz"}, {"abc", 5, "x", "abc\x00\x00x"}, {"abc", 0, "wxyz", "wxyz"}, {"abc", 0, "\x00", "\x00bc"},
		{"abc", 8190, "xy", "abc" + strings.Repeat("\x00", 8187) + "xy"},
		{strings.Repeat("a", 8192), 8191, "x", strings.Repeat("a", 8191) + "x"},
		{"abc", 0, strings.Repeat("\xff", 8192), strings.Repeat("\xff", 8192)},
	} {
		f := core.New(5)
		n := create(t, f, joe, 1, "n")
		write(t, f, n, c.before)
		f.Met()
		is(t, "Write", f.Write(ann, n, c.offset, c.data), api.Acces)
		chmod(t, f, n, 0666)
		is(t, "Write", f.Write(ann, n, c.offset, c.data), 0)
		x := node(t, f, n)
		if x.Data != c.want || x.Size != len(c.want) || x.Used < x.Size || x.Used%128 != 0 || x.Used >= x.Size+128 {
			t.Errorf("%q at %d in %q: %q, %v", c.data, c.offset, c.before, x.Data, x.Attr)
		}
		if x.Modify != at(10) || x.Change != at(10) || x.Access != at(8) {
			t.Errorf("moments: %v", x.Attr)
		}
		isMet(t, f, core.Met{ID: n})
	}
}

// P13.4: what is too much for a file; and nothing to be written.
func TestWriteEdges(t *testing.T) {
	f := core.New(5)
	n := create(t, f, joe, 1, "n")
	write(t, f, n, "abc")
	for _, c := range []struct {
		offset int
		data   string
		want   api.Status
	}{
		{8192, "x", api.FBig}, {8191, "xy", api.FBig}, {0, strings.Repeat("x", 8193), api.FBig}, {8193, "", api.FBig},
		{math.MaxInt, "x", api.FBig}, {math.MaxInt, "", api.FBig}, {8192, "", 0}, {0, "", 0}, {3, "", 0}, {100, "", 0},
	} {
		refusedWrite(t, f, ann, n, c.offset, c.data, api.Acces)
		refusedWrite(t, f, joe, n, c.offset, c.data, c.want)
	}
}

// P13.4: what a symbolic link says, to all.
func TestReadlink(t *testing.T) {
	f := oneOfEach(t)
	chmod(t, f, attr.Lnk+1, 0)
	for id := 0; id < 10; id++ {
		want, status := "", api.Inval
		switch id {
		case attr.Lnk + 1:
			want, status = "said", 0
		case 0, 9:
			status = api.Stale
		}
		if s, st := f.Readlink(ann, id); s != want || st != status {
			t.Errorf("Readlink(%d): %q %d", id, s, st)
		}
	}
}
