package drc_test

import (
	"encoding/binary"
	"math"
	"strings"
	"testing"

	"coracle/api"
	"coracle/drc"
)

// kept is an answer as a change keeps it.
type kept struct {
	age, client, xid int
	call, reply      string
}

// opaque: a text as it is laid out.
func opaque(b []byte, s string) []byte {
	b = append(binary.BigEndian.AppendUint32(b, uint32(len(s))), s...)
	return append(b, make([]byte, (4-len(s)%4)%4)...)
}

// change: the change that keeps an answer, byte by byte.
func change(place int, k kept) api.Change {
	var b []byte
	for _, n := range []int{k.age, k.client, k.xid} {
		b = binary.BigEndian.AppendUint64(b, uint64(n))
	}
	return api.Change{Key: "r" + string([]byte{byte(place)}), Value: string(opaque(opaque(b, k.call), k.reply))}
}

func put(t *testing.T, c *drc.Cache, client, xid int, call, reply string) api.Change {
	t.Helper()
	x, ok := c.Put(client, xid, call, reply)
	if !ok {
		t.Fatalf("Put(%d, %d, %q)", client, xid, call)
	}
	return x
}

func isChange(t *testing.T, what string, got, want api.Change) {
	t.Helper()
	if got != want {
		t.Errorf("%s: %v, not %v", what, got, want)
	}
}

// looks: what should be remembered for a call; nothing, where it is "none".
func looks(t *testing.T, c *drc.Cache, client, xid int, call, want string) {
	t.Helper()
	s, ok := c.Look(client, xid, call)
	if want == "none" && (ok || s != "") || want != "none" && (!ok || s != want) {
		t.Errorf("Look(%d, %d, %q): %q %v, not %q", client, xid, call, s, ok, want)
	}
}

func holds(t *testing.T, c *drc.Cache, want int) {
	t.Helper()
	if n := c.Len(); n != want {
		t.Errorf("Len: %d, not %d", n, want)
	}
}

// The chapter's example.
func TestExample(t *testing.T) {
	c := drc.New(2)
	put(t, c, 1, 5, "a", "x")
	put(t, c, 1, 6, "b", "y")
	put(t, c, 2, 5, "c", "z")
	looks(t, c, 1, 5, "a", "none")
	looks(t, c, 1, 6, "b", "y")
	looks(t, c, 2, 5, "c", "z")
	holds(t, c, 2)
}

// P16.1, P16.2: how many places there are, and in which one each answer comes to stand.
func TestSizes(t *testing.T) {
	for _, size := range []int{math.MinInt, -1, 0, 1, 2, 3, 32, 255, 256, 257, math.MaxInt} {
		c := drc.New(size)
		if c == nil {
			t.Fatalf("New(%d) is nil", size)
		}
		holds(t, c, 0)
		looks(t, c, 0, 0, "", "none")
		places := min(max(size, 1), 256)
		for i := range 600 {
			isChange(t, "Put", put(t, c, 7, i, "c", "r"), change(i%places, kept{i + 1, 7, i, "c", "r"}))
			holds(t, c, min(i+1, places))
			looks(t, c, 7, i, "c", "r")
			looks(t, c, 7, i-places, "c", "none")
			if i >= places {
				looks(t, c, 7, i-places+1, "c", "r")
			}
		}
	}
}

// P16.1: all three must be the same.
func TestLook(t *testing.T) {
	c := drc.New(9)
	put(t, c, 1, 2, "a", "x")
	put(t, c, math.MinInt, math.MaxInt, "", "")
	looks(t, c, 1, 2, "a", "x")
	looks(t, c, math.MinInt, math.MaxInt, "", "")
	if _, ok := c.Look(math.MinInt, math.MaxInt, ""); !ok {
		t.Error("an empty reply isn't remembered")
	}
	looks(t, c, 0, 2, "a", "none")
	looks(t, c, 1, 3, "a", "none")
	looks(t, c, 2, 1, "a", "none")
	looks(t, c, 1, 2, "", "none")
	looks(t, c, 1, 2, "a\x00", "none")
	looks(t, c, 1, 2, "A", "none")
	looks(t, c, 1, 2, strings.Repeat("a", 901), "none")
}

// P16.1: of several for the same three the youngest counts, wherever it stands.
func TestLookNewest(t *testing.T) {
	c := drc.New(3)
	for i, reply := range []string{"p", "q", "r", "s", "t"} {
		put(t, c, 1, 1, "a", reply)
		looks(t, c, 1, 1, "a", reply)
		holds(t, c, min(i+1, 3))
	}
	put(t, c, 1, 1, "b", "u")
	put(t, c, 1, 1, "b", "v")
	looks(t, c, 1, 1, "a", "t")
	put(t, c, 1, 1, "b", "w")
	looks(t, c, 1, 1, "a", "none")
}

// P16.1: of one age the one at the least place counts, whichever was loaded last.
func TestLookSameAge(t *testing.T) {
	for _, places := range [][]int{{1, 2, 3}, {3, 2, 1}, {2, 1, 3}} {
		c := drc.New(5)
		for _, place := range places {
			if !c.Load(change(place, kept{7, 1, 1, "a", string(rune('0' + place))})) {
				t.Fatal("Load")
			}
		}
		looks(t, c, 1, 1, "a", "1")
		c.Load(change(4, kept{8, 1, 1, "a", "4"}))
		looks(t, c, 1, 1, "a", "4")
		c.Load(change(0, kept{6, 1, 1, "a", "0"}))
		looks(t, c, 1, 1, "a", "4")
	}
}

// P16.2: what is too long isn't remembered, and the age stays.
func TestPutLong(t *testing.T) {
	c := drc.New(4)
	full, long := strings.Repeat("f", 900), strings.Repeat("f", 901)
	put(t, c, 1, 1, "a", "x")
	for _, l := range [][2]string{{long, ""}, {"", long}, {long, long}, {full, long}, {long, full}, {strings.Repeat("f", 1<<17), "x"}} {
		if x, ok := c.Put(1, 2, l[0], l[1]); ok || x != (api.Change{}) {
			t.Errorf("Put of %d and %d bytes: %v", len(l[0]), len(l[1]), ok)
		}
		if x, ok := c.Kept(1, 2, l[0], l[1]); ok || x != (api.Change{}) {
			t.Errorf("Kept of %d and %d bytes: %v", len(l[0]), len(l[1]), ok)
		}
		looks(t, c, 1, 2, l[0], "none")
		holds(t, c, 1)
	}
	isChange(t, "Put", put(t, c, 1, 2, full, full), change(1, kept{2, 1, 2, full, full}))
	looks(t, c, 1, 2, full, full)
	looks(t, c, 1, 1, "a", "x")
}

// P16.3: Kept answers what Put would, and changes nothing.
func TestKept(t *testing.T) {
	c := drc.New(2)
	for i := range 5 {
		want := change(i%2, kept{i + 1, -3, i, "a", "x"})
		for range 3 {
			x, ok := c.Kept(-3, i, "a", "x")
			if !ok {
				t.Fatal("Kept")
			}
			isChange(t, "Kept", x, want)
			holds(t, c, min(i, 2))
			looks(t, c, -3, i, "a", "none")
		}
		isChange(t, "Put", put(t, c, -3, i, "a", "x"), want)
	}
}

// P16.3: what Load takes, and what age there is then.
func TestLoad(t *testing.T) {
	for _, k := range []kept{
		{1, 0, 0, "", ""},
		{2, math.MinInt, math.MaxInt, "a", "x"},
		{31, -1, 1, strings.Repeat("a", 900), strings.Repeat("x", 900)},
		{1 << 60, 1, 1, "a", "x"},
	} {
		c := drc.New(3)
		if !c.Load(change(2, k)) {
			t.Errorf("Load of the age %d", k.age)
			continue
		}
		holds(t, c, 1)
		looks(t, c, k.client, k.xid, k.call, k.reply)
		isChange(t, "Put", put(t, c, 5, 5, "n", "n"), change(k.age%3, kept{k.age + 1, 5, 5, "n", "n"}))
		isChange(t, "Put", put(t, c, 5, 6, "n", "n"), change((k.age+1)%3, kept{k.age + 2, 5, 6, "n", "n"}))
	}
}

// P16.3: what is loaded takes the place of what stood there; the age never falls.
func TestLoadOver(t *testing.T) {
	c := drc.New(2)
	put(t, c, 1, 1, "a", "x")
	put(t, c, 1, 2, "b", "y")
	put(t, c, 1, 3, "c", "z")
	if !c.Load(change(0, kept{1, 1, 4, "d", "w"})) {
		t.Fatal("Load")
	}
	looks(t, c, 1, 3, "c", "none")
	looks(t, c, 1, 4, "d", "w")
	looks(t, c, 1, 2, "b", "y")
	holds(t, c, 2)
	isChange(t, "Put", put(t, c, 1, 5, "e", "v"), change(1, kept{4, 1, 5, "e", "v"}))
}

// noChanges are changes that keep no answer for a cache of three places.
func noChanges() []api.Change {
	good := change(1, kept{4, 1, 2, "abc", "xyz"})
	with := func(k kept) string { return change(1, k).Value }
	l := []api.Change{
		{}, {Key: good.Key}, {Value: good.Value}, {Key: good.Key, Gone: true}, {Key: good.Key, Value: good.Value, Gone: true},
	}
	for _, key := range []string{"", "r", "r\x03", "r\xff", "r\x01\x00", "r\x00\x01", "\x01", "\x01r", "R\x01", "s\x01", " r\x01"} {
		l = append(l, api.Change{Key: key, Value: good.Value})
	}
	for _, value := range []string{
		with(kept{0, 1, 2, "abc", "xyz"}), with(kept{-1, 1, 2, "abc", "xyz"}), with(kept{math.MinInt, 1, 2, "abc", "xyz"}),
		with(kept{1<<60 + 1, 1, 2, "abc", "xyz"}), with(kept{math.MaxInt, 1, 2, "abc", "xyz"}),
		with(kept{4, 1, 2, strings.Repeat("a", 901), "xyz"}), with(kept{4, 1, 2, "abc", strings.Repeat("a", 901)}),
		good.Value + "\x00", good.Value + "\x00\x00\x00\x00", good.Value[:len(good.Value)-1] + "\x01", strings.Repeat("\x00", 1<<17),
	} {
		l = append(l, api.Change{Key: good.Key, Value: value})
	}
	for n := range len(good.Value) {
		l = append(l, api.Change{Key: good.Key, Value: good.Value[:n]})
	}
	return l
}

// P16.3: what Load doesn't take, and that nothing happens then.
func TestLoadNone(t *testing.T) {
	c := drc.New(3)
	put(t, c, 1, 1, "a", "x")
	put(t, c, 1, 2, "b", "y")
	for _, x := range noChanges() {
		if c.Load(x) {
			t.Errorf("Load(%v)", x)
		}
		holds(t, c, 2)
	}
	looks(t, c, 1, 1, "a", "x")
	looks(t, c, 1, 2, "b", "y")
	isChange(t, "Put", put(t, c, 1, 3, "c", "z"), change(2, kept{3, 1, 3, "c", "z"}))
	for place := range 256 {
		if got := drc.New(place).Load(change(place, kept{1, 1, 1, "a", "x"})); got != (place == 0) {
			t.Errorf("Load at the place %d of %d: %v", place, place, got)
		}
		if !drc.New(place + 1).Load(change(place, kept{1, 1, 1, "a", "x"})) {
			t.Errorf("Load at the last place, %d", place)
		}
	}
}

// P16.1 to P16.3: a nil cache; and one that New hasn't made, which isn't to panic.
func TestNil(t *testing.T) {
	for _, c := range []*drc.Cache{nil, new(drc.Cache)} {
		if x, ok := c.Put(1, 1, "a", "x"); ok || x != (api.Change{}) {
			t.Errorf("Put: %v %v", x, ok)
		}
		if x, ok := c.Kept(1, 1, "a", "x"); ok || x != (api.Change{}) {
			t.Errorf("Kept: %v %v", x, ok)
		}
		if c.Load(change(0, kept{1, 1, 1, "a", "x"})) {
			t.Error("Load")
		}
		looks(t, c, 1, 1, "a", "none")
		holds(t, c, 0)
	}
}
