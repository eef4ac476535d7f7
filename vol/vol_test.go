package vol_test

import (
	"math"
	"slices"
	"strings"
	"testing"

	"coracle/api"
	"coracle/attr"
	"coracle/core"
	"coracle/dir"
	"coracle/sector"
	"coracle/store"
	"coracle/vol"
)

var super = core.Caller{Now: 6}

// made: the number of a call that should have made something.
func made(t *testing.T) func(int, api.Status) int {
	return func(id int, status api.Status) int {
		t.Helper()
		if status != 0 {
			t.Fatalf("not made: %d", status)
		}
		return id
	}
}

func create(t *testing.T, v *vol.Vol, d int, s string) int {
	t.Helper()
	return made(t)(v.FS().Create(super, d, s, 1, attr.Set{}, ""))
}

func exclusive(t *testing.T, v *vol.Vol, s, verf string) int {
	t.Helper()
	return made(t)(v.FS().Create(super, 1, s, 2, attr.Set{}, verf))
}

func mkdir(t *testing.T, v *vol.Vol, d int, s string) int {
	t.Helper()
	return made(t)(v.FS().Make(super, d, s, attr.Dir, attr.Set{}, "", 0, 0))
}

func did(t *testing.T, status api.Status) {
	t.Helper()
	if status != 0 {
		t.Fatalf("not done: %d", status)
	}
}

func write(t *testing.T, v *vol.Vol, id, offset int, data string) {
	t.Helper()
	did(t, v.FS().Write(super, id, offset, data))
}

func size(t *testing.T, v *vol.Vol, id, n int) {
	t.Helper()
	did(t, v.FS().SetAttr(super, id, attr.Set{HasSize: true, Size: n}, nil))
}

func saved(t *testing.T, v *vol.Vol, more ...api.Change) {
	t.Helper()
	if e := v.Save(more...); e != api.OK {
		t.Fatalf("Save: %d", e)
	}
}

func read(t *testing.T, v *vol.Vol, id int) string {
	t.Helper()
	s, _, status := v.FS().Read(super, id, 0, 8192)
	did(t, status)
	return s
}

// P15.1: a new file system is the root alone, whenever it was made.
func TestFormat(t *testing.T) {
	for _, sectors := range []int{130, 258, 1026} {
		for _, now := range []int{0, 5, -1, math.MaxInt, math.MinInt} {
			d := blank(t, sectors)
			is(t, "Format", vol.Format(d, now), api.OK)
			same(t, "Format", stateOf(reopened(t, d).FS()), stateOf(core.New(now)))
			differ(t, "Format", lies(t, d), pairs{
				"s":            eight(1),
				"i" + eight(1): eights(2, 0777, 2, 0, 0, 0, 0, 0, 0, 1, 1, now, 0, now, 0, now, 0, 1, 3) + four(0) + four(0),
			})
		}
	}
}

// P15.1: layer 7's errors.
func TestStoresErrors(t *testing.T) {
	for _, d := range []*sector.Disk{nil, blank(t, 1), blank(t, 66), blank(t, 129)} {
		is(t, "Format", vol.Format(d, 5), api.ErrArg)
		if v, more, e := vol.Open(d); v != nil || len(more) != 0 || e != api.ErrArg {
			t.Errorf("Open of %d sectors: %v %d", d.Size(), more, e)
		}
	}
	d := blank(t, 130)
	if v, more, e := vol.Open(d); v != nil || len(more) != 0 || e != api.ErrForm {
		t.Errorf("Open of noughts: %v %d", more, e)
	}
	n := 1
	for over := false; !over; n++ {
		d.Cut(n, 0)
		e := vol.Format(d, 5)
		if over = e == api.OK; !over {
			is(t, "Format, cut", e, api.ErrPower)
			is(t, "Format without power", vol.Format(d, 5), api.ErrPower)
			if v, more, e := vol.Open(d); v != nil || len(more) != 0 || e != api.ErrPower {
				t.Errorf("Open without power: %v %d", more, e)
			}
		}
		d.On()
	}
	if n < 8 {
		t.Errorf("Format has %d steps", n)
	}
	for n := 1; n <= 2; n++ {
		d.Cut(n, 0)
		if v, more, e := vol.Open(d); v != nil || len(more) != 0 || e != api.ErrPower {
			t.Errorf("Open, cut in step %d: %v %d", n, more, e)
		}
		d.On()
	}
	reopened(t, d)
}

// grove: a file system of all kinds, on a disk.
func grove(t *testing.T) (*sector.Disk, *vol.Vol) {
	t.Helper()
	d, v := formatted(t, 258)
	c := core.Caller{Who: api.Who{UID: 7, GID: 8}, Now: 9}
	a := made(t)(v.FS().Make(c, 1, "a", attr.Dir, attr.Set{}, "", 0, 0))                   // 2
	n := made(t)(v.FS().Create(c, a, "n", 1, attr.Set{}, ""))                              // 3
	made(t)(v.FS().Make(c, a, "l", attr.Lnk, attr.Set{}, "/x/y", 0, 0))                    // 4
	made(t)(v.FS().Make(super, 1, "b", attr.Chr, attr.Set{}, "", 11, 12))                  // 5
	made(t)(v.FS().Make(c, 1, "p", attr.Fifo, attr.Set{HasMode: true, Mode: 7}, "", 0, 0)) // 6
	e := made(t)(v.FS().Create(c, 1, "e", 2, attr.Set{}, "verf"))                          // 7
	mkdir(t, v, a, "d")                                                                    // 8
	gone := create(t, v, a, "gone")                                                        // 9
	did(t, v.FS().Write(c, n, 300, "abc"))
	did(t, v.FS().Write(c, e, 0, "x"+noughts(299)))
	did(t, v.FS().Link(c, n, 1, "m"))
	write(t, v, gone, 0, sized(500))
	did(t, v.FS().SetAttr(c, n, attr.Set{HowAccess: 2, Access: attr.Time{S: -3, N: 4}}, nil))
	saved(t, v, give("r", "1"), give("\x00", ""), give("\xff", "2"), give("t", "3"), give("D", "4"), give("h", "5"))
	did(t, v.FS().Remove(super, a, "gone"))
	saved(t, v)
	return d, v
}

// P15.1, P15.2 and how it is kept: a file system of all kinds, byte by byte.
func TestLayout(t *testing.T) {
	d, v := grove(t)
	none := opaque("") + opaque("")
	at9 := []int{9, 0, 9, 0, 9, 0}
	node := func(numbers ...[]int) string { return eights(slices.Concat(numbers...)...) }
	want := pairs{
		"r": "1", "\x00": "", "\xff": "2", "t": "3", "D": "4", "h": "5",
		"s":            eight(9),
		"i" + eight(1): node([]int{2, 0777, 3, 0, 0, 5, 0, 0, 0, 1, 1, 5, 0, 9, 0, 9, 0}, []int{1, 8}) + none,
		"i" + eight(2): node([]int{2, 0755, 3, 7, 8, 3, 0, 0, 0, 1, 2, 9, 0, 6, 0, 6, 0}, []int{1, 7}) + none,
		"i" + eight(3): node([]int{1, 0644, 2, 7, 8, 303, 384, 0, 0, 1, 3, -3, 4, 9, 0, 9, 0}, []int{0, 0}) + none,
		"i" + eight(4): node([]int{5, 0777, 1, 7, 8, 4, 128, 0, 0, 1, 4}, at9, []int{0, 0}) + opaque("") + opaque("/x/y"),
		"i" + eight(5): node([]int{4, 0644, 1, 0, 0, 0, 0, 11, 12, 1, 5, 6, 0, 6, 0, 6, 0}, []int{0, 0}) + none,
		"i" + eight(6): node([]int{7, 7, 1, 7, 8, 0, 0, 0, 0, 1, 6}, at9, []int{0, 0}) + none,
		"i" + eight(7): node([]int{1, 0644, 1, 7, 8, 300, 384, 0, 0, 1, 7}, at9, []int{0, 0}) + opaque("verf") + opaque(""),
		"i" + eight(8): node([]int{2, 0755, 2, 0, 0, 0, 0, 0, 0, 1, 8, 6, 0, 6, 0, 6, 0}, []int{2, 3}) + none,

		"e" + eight(1) + "a":     eights(2, 3),
		"e" + eight(1) + "b":     eights(5, 4),
		"e" + eight(1) + "p":     eights(6, 5),
		"e" + eight(1) + "e":     eights(7, 6),
		"e" + eight(1) + "m":     eights(3, 7),
		"e" + eight(2) + "n":     eights(3, 3),
		"e" + eight(2) + "l":     eights(4, 4),
		"e" + eight(2) + "d":     eights(8, 5),
		"d" + eight(3) + four(2): noughts(44) + "abc",
		"d" + eight(7) + four(0): "x",
	}
	differ(t, "kept", lies(t, d), want)
	differ(t, "allPairs", allPairs(v.FS()), want.without("r").without("\x00").without("\xff").without("t").without("D").without("h"))
	now := stateOf(v.FS())
	v, more, e := vol.Open(d)
	if l := []api.Change{give("\x00", ""), give("D", "4"), give("h", "5"), give("r", "1"), give("t", "3"), give("\xff", "2")}; e != api.OK || !slices.Equal(more, l) {
		t.Errorf("Open: %v %d", more, e)
	}
	same(t, "Open", stateOf(v.FS()), now)
	if id := create(t, v, 1, "new"); id != 10 {
		t.Errorf("a new file is %d", id)
	}
	if x, _ := v.FS().Node(2); !slices.Equal(x.Names.After(0, 9), []dir.Entry{{Name: "n", ID: 3, Cookie: 3}, {Name: "l", ID: 4, Cookie: 4}, {Name: "d", ID: 8, Cookie: 5}}) {
		t.Error("the names of a")
	}
}

// P15.1: pairs that were laid by hand are a file system, just as if it had been saved.
func TestOpenOfPairs(t *testing.T) {
	_, v := grove(t)
	p := allPairs(v.FS())
	p["d"+eight(3)+four(3)], p["d"+eight(7)+four(63)] = "behind the end", "far behind it" // as a loss of power may leave them
	p["d"+eight(7)+four(2)] = "y" + noughts(50) + "behind"
	p["d"+eight(10)+four(0)], p["d"+eight(11)+four(1)] = "of no file", "yet"
	d := lie(t, 258, p)
	got := reopened(t, d)
	want := stateOf(v.FS())
	x := want.files[7]
	x.data = "x" + noughts(255) + "y" + noughts(43)
	want.files[7] = x
	same(t, "Open", stateOf(got.FS()), want)
	size(t, got, 3, 400) // what lies behind the end never comes back
	size(t, got, 7, 8192)
	saved(t, got)
	if s := read(t, reopened(t, d), 3); s != noughts(300)+"abc"+noughts(97) {
		t.Errorf("file 3: %q", s)
	}
	if s := read(t, reopened(t, d), 7); s != x.data+noughts(8192-300) {
		t.Errorf("file 7: %q", s)
	}
	got = reopened(t, d)
	if id := create(t, got, 1, "new"); id != 10 || read(t, got, id) != "" { // nor does what lay of no file
		t.Errorf("a new file is %d", id)
	}
	mkdir(t, got, 1, "new d")
	saved(t, got)
	differ(t, "kept", lies(t, d), allPairs(got.FS()))
}

// P15.1: what is kept isn't a file system's.
func TestOpenErrForm(t *testing.T) {
	_, v := grove(t)
	p := allPairs(v.FS())
	p["r"] = "kept"
	node := func(id int) string { return p["i"+eight(id)] }
	with := func(id, place, n int) string { // one number of a node is another one
		return node(id)[:8*place] + eight(n) + node(id)[8*place+8:]
	}
	long := node(3)[:8*19]
	for name, changes := range map[string][]api.Change{
		"nothing":                      p.without("").lacks(p),
		"no greatest number":           {take("s")},
		"a short greatest number":      {give("s", eight(9)[:7])},
		"a long greatest number":       {give("s", eight(9)+"\x00")},
		"two greatest numbers":         {give("s\x00", eight(9))},
		"no root":                      append(p.without("i"+eight(1)).lacks(p), p.without("e"+eight(1)).lacks(p)...),
		"no root, but what it has":     {take("i" + eight(1))},
		"a root that is no directory":  append(p.without("e"+eight(1)).lacks(p), give("i"+eight(1), with(6, 10, 1))),
		"no node of nought":            {give("i"+eight(10), "")},
		"a node that ends early":       {give("i"+eight(3), node(3)[:len(node(3))-4])},
		"a node that ends late":        {give("i"+eight(3), node(3)+four(0))},
		"a node with bad noughts":      {give("i"+eight(7), strings.Replace(node(7), "verf", "ver\x01", 1)[:8*19]+four(3)+"ver\x01"+four(0))},
		"a Verf of 65 bytes":           {give("i"+eight(3), long+opaque(sized(65))+opaque(""))},
		"a link of 257 bytes":          {give("i"+eight(4), node(4)[:8*19]+opaque("")+opaque(sized(257)))},
		"a file that is a link":        {give("i"+eight(3), long+opaque("")+opaque("x"))},
		"a node of another number":     {give("i"+eight(3), with(3, 10, 4))},
		"a node of a new number":       {give("i"+eight(20), node(3))},
		"a number of seven bytes":      {give("i"+eight(10)[:7], with(3, 10, 10))},
		"a number of nine bytes":       {give("i"+eight(10)+"\x00", with(3, 10, 10))},
		"a file with a Parent":         {give("i"+eight(3), with(3, 17, 1))},
		"a file with a next cookie":    {give("i"+eight(3), with(3, 18, 3))},
		"a directory's next cookie":    {give("i"+eight(8), with(8, 18, 2))},
		"a Size below 0":               {give("i"+eight(3), with(3, 5, -1))},
		"a Size above the greatest":    {give("i"+eight(3), with(3, 5, 8193))},
		"a monstrous Size":             {give("i"+eight(3), with(3, 5, math.MaxInt))},
		"a name in no directory":       {give("e"+eight(20)+"x", eights(3, 9))},
		"a name in a file":             {give("e"+eight(3)+"x", eights(3, 9))},
		"a name in a link":             {give("e"+eight(4)+"x", eights(3, 9))},
		"a name of nothing":            {give("e"+eight(1)+"x", eights(20, 9))},
		"a name of nought":             {give("e"+eight(1)+"x", eights(0, 9))},
		"a file that isn't there":      {take("i" + eight(6))},
		"a directory that isn't there": {take("i" + eight(2))},
		"no name":                      {give("e"+eight(1), eights(3, 9))},
		"half a directory":             {give("e"+eight(1)[:7], eights(3, 9))},
		"a name with a slash":          {give("e"+eight(1)+"a/b", eights(3, 9))},
		"a name with a nought":         {give("e"+eight(1)+"a\x00", eights(3, 9))},
		"a name of 65 bytes":           {give("e"+eight(1)+sized(65), eights(3, 9))},
		"the name .":                   {give("e"+eight(1)+".", eights(1, 9))},
		"the name ..":                  {give("e"+eight(1)+"..", eights(1, 9))},
		"the cookie 2":                 {give("e"+eight(1)+"x", eights(3, 2))},
		"the cookie -1":                {give("e"+eight(1)+"x", eights(3, -1))},
		"a cookie too great":           {give("e"+eight(1)+"x", eights(3, 1<<62+1))},
		"a cookie twice":               {give("e"+eight(1)+"x", eights(3, 4))},
		"an entry that ends early":     {give("e"+eight(1)+"m", eights(3, 7)[:15])},
		"an entry that ends late":      {give("e"+eight(1)+"m", eights(3, 7, 0))},
		"a piece of a directory":       {give("d"+eight(2)+four(0), "x")},
		"a piece of a link":            {give("d"+eight(4)+four(0), "x")},
		"a piece of 129 bytes":         {give("d"+eight(3)+four(0), sized(129))},
		"a piece of nothing":           {give("d"+eight(3)+four(0), "")},
		"a piece of a nought":          {give("d"+eight(3)+four(0), "\x00")},
		"a piece with a nought behind": {give("d"+eight(3)+four(0), "x\x00")},
		"a piece with a short number":  {give("d"+eight(3)+"\x00\x00\x00", "x")},
		"a piece with a long number":   {give("d"+eight(3)+eight(0), "x")},
		"a piece behind all files":     {give("d"+eight(3)+four(64), "x")},
		"the greatest piece":           {give("d"+eight(3)+"\xff\xff\xff\xff", "x")},
		"a piece without a file":       {give("d", "x")},
		"a node without a number":      {give("i", node(3))},
	} {
		v, more, e := vol.Open(lie(t, 258, p.behind(changes...)))
		if v != nil || len(more) != 0 || e != api.ErrForm {
			t.Errorf("%s: %v %d", name, more, e)
		}
	}
}

// P15.1: at the edges what is kept is a file system's.
func TestOpenAtTheEdges(t *testing.T) {
	_, v := grove(t)
	p := allPairs(v.FS())
	for name, c := range map[string]api.Change{
		"a name of 64 bytes":     give("e"+eight(1)+sized(64), eights(3, 99)),
		"the greatest cookie":    give("e"+eight(1)+"x", eights(3, 1<<62)),
		"the least cookie":       give("e"+eight(8)+"x", eights(3, 3)),
		"a piece of 128 bytes":   give("d"+eight(3)+four(0), sized(128)),
		"the last piece":         give("d"+eight(3)+four(63), sized(128)),
		"a Verf of 64 bytes":     give("i"+eight(3), p["i"+eight(3)][:8*19]+opaque(sized(64))+opaque("")),
		"a link of 256 bytes":    give("i"+eight(4), p["i"+eight(4)][:8*19]+opaque("")+opaque(sized(256))),
		"the greatest Size":      give("i"+eight(3), p["i"+eight(3)][:8*5]+eights(8192, 8192)+p["i"+eight(3)][8*7:]),
		"a greatest number of 1": give("s", eight(1)),
		"the greatest of all":    give("s", eight(math.MaxInt)),
	} {
		d := lie(t, 258, p.behind(c))
		got, _, e := vol.Open(d)
		if e != api.OK {
			t.Errorf("%s: %d", name, e)
			continue
		}
		if name == "a name of 64 bytes" {
			if id, status := got.FS().Lookup(super, 1, sized(64)); id != 3 || status != 0 {
				t.Errorf("%s: %d %d", name, id, status)
			}
		}
	}
	got, _, _ := vol.Open(lie(t, 258, p.behind(give("s", eight(77)))))
	if id := create(t, got, 1, "x"); id != 78 {
		t.Errorf("a new file is %d", id)
	}
}

// P15.1: the store's error comes ahead of ErrForm.
func TestOpenStoreFirst(t *testing.T) {
	d, _ := grove(t)
	s, _ := store.Open(d)
	is(t, "Commit", s.Commit(take("s")), api.OK)
	d.Cut(1, 0)
	if v, more, e := vol.Open(d); v != nil || len(more) != 0 || e != api.ErrPower {
		t.Errorf("Open: %v %d", more, e)
	}
}

// P15.5: layer 7's numbers; and a nil Vol.
func TestBytesBootNil(t *testing.T) {
	for sectors, segments := range map[int]int{130: 8, 258: 16, 1026: 64} {
		d, v := formatted(t, sectors)
		for boot := 2; boot < 5; boot++ {
			live, room := v.Bytes()
			if live != lies(t, d).bytes() || room != roomy*segments || v.Boot() != boot {
				t.Errorf("%d sectors: %d of %d live, boot %d", sectors, live, room, v.Boot())
			}
			create(t, v, 1, "f"+eight(boot)[7:])
			saved(t, v, give("r", sized(boot)))
			v = reopened(t, d)
		}
	}
	var v *vol.Vol
	if v.FS() != nil || v.Dirty() != nil || v.Boot() != 0 {
		t.Error("nil")
	}
	if live, room := v.Bytes(); live != 0 || room != 0 {
		t.Errorf("nil: %d of %d", live, room)
	}
	v.Keep()
	for _, e := range []api.Errno{v.Save(), v.Save(give("r", "1")), v.Commit(1), v.Clean()} {
		is(t, "nil", e, api.ErrArg)
	}
	v = new(vol.Vol) // has no disk; no call on it may panic
	v.Keep()
	is(t, "without a disk", v.Save(), api.ErrArg)
	is(t, "without a disk", v.Clean(), api.ErrArg)
	v.Commit(1)
	v.Bytes()
	isDirty(t, v)
	if v.Boot() != 0 {
		t.Error("Boot without a disk")
	}
}
