package name_test

import (
	"math"
	"math/rand"
	"slices"
	"strings"
	"testing"

	"coracle/api"
	"coracle/name"
)

func sized(n int) string { return strings.Repeat("x", n) }

func check(t *testing.T, s string, want api.Status) {
	t.Helper()
	if got := name.Check(s); got != want {
		t.Errorf("Check(%q): %d, not %d", s, got, want)
	}
}

func splits(t *testing.T, path string, status api.Status, names ...string) {
	t.Helper()
	if got, s := name.Split(path); s != status || !slices.Equal(got, names) {
		t.Errorf("Split(%q): %q and %d, not %q and %d", path, got, s, names, status)
	}
}

func parent(t *testing.T, path, above, last string, status api.Status) {
	t.Helper()
	if a, l, s := name.Parent(path); a != above || l != last || s != status {
		t.Errorf("Parent(%q): %q, %q and %d, not %q, %q and %d", path, a, l, s, above, last, status)
	}
}

// P11.1: the bytes of a name.
func TestCheckBytes(t *testing.T) {
	for b := range 256 {
		s := string([]byte{byte(b)})
		alone, among := api.Status(0), api.Status(0)
		switch b {
		case 0, '/':
			alone, among = api.Inval, api.Inval
		case '.':
			alone = api.Inval
		}
		check(t, s, alone)
		check(t, s+"a", among)
		check(t, "a"+s, among)
		check(t, "ab"+s+"cd", among)
		check(t, sized(63)+s, among)
	}
	for _, s := range []string{"...", "....", ".a", "..a", "a..", ". ", " ..", "a.b"} {
		check(t, s, 0)
	}
	check(t, "", api.Inval)
	check(t, ".", api.Inval)
	check(t, "..", api.Inval)
}

// P11.1: the bytes of a name are counted, not its letters, and a name that is too long is that ahead of all else.
func TestCheckLength(t *testing.T) {
	for n := 1; n <= 64; n++ {
		check(t, sized(n), 0)
	}
	for _, n := range []int{65, 66, 128, 257, 1 << 16, 1 << 20} {
		check(t, sized(n), api.NameTooLong)
		check(t, sized(n-1)+"/", api.NameTooLong)
		check(t, "\x00"+sized(n-1), api.NameTooLong)
		check(t, strings.Repeat(".", n), api.NameTooLong)
	}
	check(t, strings.Repeat(".", 64), 0)
	check(t, strings.Repeat("\u00e9", 32), 0)
	check(t, strings.Repeat("\u00e9", 33), api.NameTooLong)
}

// P11.1: the names of paths, and what is no path.
func TestSplit(t *testing.T) {
	splits(t, "/", 0)
	splits(t, "/a", 0, "a")
	splits(t, "/a/b", 0, "a", "b")
	splits(t, "/a/a/a", 0, "a", "a", "a")
	splits(t, "/.../ /\xff", 0, "...", " ", "\xff")
	for _, path := range []string{"", "a", "a/b", ".", " /a", "\x00/", "//", "///", "/a/", "//a", "/a//b", "/.", "/..", "/a/.", "/a/../b", "/./a", "/a\x00", "/\x00/a"} {
		splits(t, path, api.Inval)
	}
	splits(t, "/"+sized(64), 0, sized(64))
	splits(t, "/"+sized(65), api.NameTooLong)
	splits(t, "/a/"+sized(65)+"/b", api.NameTooLong)
	splits(t, sized(65), api.Inval)
}

// P11.1: of several names that are none the first one is told.
func TestSplitFirst(t *testing.T) {
	splits(t, "/"+sized(65)+"/..", api.NameTooLong)
	splits(t, "/../"+sized(65), api.Inval)
	splits(t, "/"+sized(65)+"/", api.NameTooLong)
	splits(t, "//"+sized(65), api.Inval)
	splits(t, "/a/"+sized(64)+"\x00/..", api.NameTooLong)
}

// P11.1: a path of 256 bytes, and of one more; that is looked at ahead of the names.
func TestSplitLength(t *testing.T) {
	names := []string{sized(64), sized(64), sized(64), sized(60)}
	splits(t, "/"+strings.Join(names, "/"), 0, names...)
	splits(t, "/"+strings.Join(names, "/")+"y", api.Inval)
	splits(t, "/"+sized(255), api.NameTooLong)
	splits(t, "/"+sized(256), api.Inval)
	splits(t, "/"+sized(1<<20), api.Inval)
	splits(t, strings.Repeat("/", 1<<20), api.Inval)
}

// P11.1: paths of 16 names, and of one more; that too is looked at ahead of the names.
func TestSplitDepth(t *testing.T) {
	var names []string
	for len(names) < 40 {
		names = append(names, string(rune('a'+len(names)%26)))
		if len(names) <= 16 {
			splits(t, "/"+strings.Join(names, "/"), 0, names...)
		} else {
			splits(t, "/"+strings.Join(names, "/"), api.Inval)
		}
	}
	splits(t, "/"+sized(65)+strings.Repeat("/a", 15), api.NameTooLong)
	splits(t, "/"+sized(65)+strings.Repeat("/a", 16), api.Inval)
}

// P11.1: an answer is new memory.
func TestSplitMemory(t *testing.T) {
	one, _ := name.Split("/a/b/c")
	two, _ := name.Split("/a/b/c")
	for i := range one[:cap(one)] {
		one[:cap(one)][i] = "spoilt"
	}
	if !slices.Equal(two, []string{"a", "b", "c"}) {
		t.Errorf("answers share memory: %q", two)
	}
	splits(t, "/a/b/c", 0, "a", "b", "c")
}

// P11.1: the path above.
func TestParent(t *testing.T) {
	parent(t, "/a", "/", "a", 0)
	parent(t, "/a/b", "/a", "b", 0)
	parent(t, "/a/b/c", "/a/b", "c", 0)
	parent(t, "/a/a", "/a", "a", 0)
	parent(t, "/"+sized(64)+"/"+sized(63), "/"+sized(64), sized(63), 0)
	parent(t, strings.Repeat("/a", 16), strings.Repeat("/a", 15), "a", 0)
	parent(t, "/", "", "", api.Inval)
}

// P11.1: Parent refuses as Split does.
func TestParentRefused(t *testing.T) {
	for _, path := range []string{"", "a", "a/b", "//", "/a/", "//a", "/a/..", "/../a", "/a\x00", "/" + sized(256), strings.Repeat("/a", 17)} {
		parent(t, path, "", "", api.Inval)
	}
	parent(t, "/"+sized(65), "", "", api.NameTooLong)
	parent(t, "/"+sized(65)+"/a", "", "", api.NameTooLong)
	parent(t, "/a/"+sized(65), "", "", api.NameTooLong)
}

// plainCheck: the document's sentence, byte by byte.
func plainCheck(s string) api.Status {
	if len(s) > 64 {
		return 63
	}
	bad := len(s) == 0 || s == "." || s == ".."
	for i := range len(s) {
		bad = bad || s[i] == '/' || s[i] == 0
	}
	if bad {
		return 22
	}
	return 0
}

// plainSplit: the document's sentence, byte by byte.
func plainSplit(path string) ([]string, api.Status) {
	if len(path) == 0 || path[0] != '/' || len(path) > 256 {
		return nil, 22
	}
	var names []string
	if len(path) > 1 {
		names = append(names, "")
		for i := 1; i < len(path); i++ {
			if path[i] == '/' {
				names = append(names, "")
			} else {
				names[len(names)-1] += string([]byte{path[i]})
			}
		}
	}
	if len(names) > 16 {
		return nil, 22
	}
	for _, s := range names {
		if status := plainCheck(s); status != 0 {
			return nil, status
		}
	}
	return names, 0
}

// P11.1: paths by chance, most of them almost good.
func TestByChance(t *testing.T) {
	r := rand.New(rand.NewSource(1111))
	pieces := []string{"/", "/", "/", "/a", "/bc", "/" + sized(30), ".", "..", "\x00", "\xfe", sized(64), "q"}
	took := map[api.Status]int{}
	for range 40000 {
		path := "/"
		if r.Intn(20) == 0 {
			path = ""
		}
		for range r.Intn(24) {
			path += pieces[r.Intn(len(pieces))]
			if r.Intn(3) > 0 {
				path += "n"
			}
		}
		names, status := plainSplit(path)
		splits(t, path, status, names...)
		check(t, path, plainCheck(path))
		took[status]++
		above, last := "", ""
		switch {
		case status == 0 && len(names) > 0:
			above, last = "/"+strings.Join(names[:len(names)-1], "/"), names[len(names)-1]
		case status == 0:
			status = api.Inval
		}
		parent(t, path, above, last, status)
	}
	if took[0] < 1000 || took[api.Inval] < 1000 || took[api.NameTooLong] < 1000 {
		t.Errorf("chance gave too few of a sort: %v", took)
	}
}

// P11.2: a silly name, which is a name, and another one of each client and number.
func TestSilly(t *testing.T) {
	for _, c := range []struct {
		client, n int
		want      string
	}{
		{0, 0, ".nfs0-0"},
		{0, 1, ".nfs0-1"},
		{2, 7, ".nfs2-7"},
		{10, 200, ".nfs10-200"},
		{-1, 5, ".nfs0-5"},
		{5, -1, ".nfs5-0"},
		{math.MinInt, math.MinInt, ".nfs0-0"},
		{math.MaxInt, math.MaxInt, ".nfs9223372036854775807-9223372036854775807"},
	} {
		if got := name.Silly(c.client, c.n); got != c.want {
			t.Errorf("Silly(%d, %d): %s, not %s", c.client, c.n, got, c.want)
		}
	}
	seen := map[string]bool{}
	for client := range 30 {
		for n := range 130 {
			s := name.Silly(client, n)
			check(t, s, 0)
			if seen[s] {
				t.Errorf("%s twice", s)
			}
			seen[s] = true
		}
	}
	check(t, name.Silly(math.MaxInt, math.MaxInt), 0)
}
