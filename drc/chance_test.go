package drc_test

import (
	"math"
	"math/rand"
	"strings"
	"testing"

	"coracle/api"
	"coracle/drc"
)

// model is a cache as the document's words tell it.
type model struct {
	size, age int
	places    map[int]kept
}

func newModel(size int) *model {
	return &model{size: min(max(size, 1), 256), places: map[int]kept{}}
}

func (m *model) look(client, xid int, call string) (string, bool) {
	best, at := 0, -1
	for place, k := range m.places {
		if k.client == client && k.xid == xid && k.call == call && (k.age > best || k.age == best && place < at) {
			best, at = k.age, place
		}
	}
	return m.places[at].reply, at >= 0
}

func (m *model) put(client, xid int, call, reply string, keep bool) (api.Change, bool) {
	if len(call) > 900 || len(reply) > 900 {
		return api.Change{}, false
	}
	k := kept{m.age + 1, client, xid, call, reply}
	place := (k.age - 1) % m.size
	if keep {
		m.age, m.places[place] = k.age, k
	}
	return change(place, k), true
}

func (m *model) load(place int, k kept) bool {
	if place >= m.size || k.age < 1 || k.age > 1<<60 || len(k.call) > 900 || len(k.reply) > 900 {
		return false
	}
	m.places[place], m.age = k, max(m.age, k.age)
	return true
}

// asked is who asks what, by chance.
type asked struct {
	client, xid int
	call, reply string
}

func pick[T any](r *rand.Rand, l ...T) T { return l[r.Intn(len(l))] }

func ask(r *rand.Rand) asked {
	a := asked{r.Intn(3), r.Intn(4), pick(r, "", "a", "b", "ab"), pick(r, "", "x", "y", strings.Repeat("z", 900))}
	if r.Intn(20) == 0 {
		a.client, a.xid = pick(r, -1, math.MinInt, math.MaxInt), pick(r, -1, math.MinInt, math.MaxInt)
	}
	if r.Intn(20) == 0 {
		a.call = strings.Repeat("a", 899+r.Intn(4))
	}
	if r.Intn(20) == 0 {
		a.reply = strings.Repeat("x", 899+r.Intn(4))
	}
	return a
}

// same: do both remember the same of all that is asked?
func same(t *testing.T, r *rand.Rand, c *drc.Cache, m *model) {
	t.Helper()
	for range 6 {
		a := ask(r)
		s, ok := c.Look(a.client, a.xid, a.call)
		if s2, ok2 := m.look(a.client, a.xid, a.call); s != s2 || ok != ok2 {
			t.Fatalf("Look(%d, %d, %q): %q %v, not %q %v", a.client, a.xid, a.call, s, ok, s2, ok2)
		}
	}
	if c.Len() != len(m.places) {
		t.Fatalf("Len: %d, not %d", c.Len(), len(m.places))
	}
}

// step: a call that may change something; the change, if it was a Put.
func step(t *testing.T, r *rand.Rand, c *drc.Cache, m *model) (api.Change, bool) {
	t.Helper()
	a := ask(r)
	if r.Intn(6) == 0 {
		x, ok := c.Kept(a.client, a.xid, a.call, a.reply)
		if x2, ok2 := m.put(a.client, a.xid, a.call, a.reply, false); x != x2 || ok != ok2 {
			t.Fatalf("Kept: %v %v, not %v %v", x, ok, x2, ok2)
		}
	}
	x, ok := c.Put(a.client, a.xid, a.call, a.reply)
	if x2, ok2 := m.put(a.client, a.xid, a.call, a.reply, true); x != x2 || ok != ok2 {
		t.Fatalf("Put: %v %v, not %v %v", x, ok, x2, ok2)
	}
	return x, ok
}

// P16.1 to P16.3: calls by chance, held against the model step by step.
func TestByChance(t *testing.T) {
	for seed := range int64(40) {
		r := rand.New(rand.NewSource(seed))
		size := pick(r, -1, 0, 1, 2, 3, 5, 8, 32, 256, 300)
		c, m := drc.New(size), newModel(size)
		for range 600 {
			step(t, r, c, m)
			if r.Intn(5) == 0 {
				a, place := ask(r), r.Intn(m.size+2)%256
				k := kept{m.age + r.Intn(9) - 6, a.client, a.xid, a.call, a.reply}
				if r.Intn(30) == 0 {
					k.age = pick(r, 1<<60, 1<<60+1, 1<<40, math.MinInt, math.MaxInt)
				}
				if got, want := c.Load(change(place, k)), m.load(place, k); got != want {
					t.Fatalf("Load at %d of %d, age %d: %v, not %v", place, m.size, k.age, got, want)
				}
			}
			same(t, r, c, m)
		}
	}
}

// P16.3: a cache into which all kept changes are loaded, in whatever order, remembers what the one that made them does, and goes on alike.
func TestLoadedByChance(t *testing.T) {
	for seed := range int64(40) {
		r := rand.New(rand.NewSource(seed))
		size := pick(r, 1, 2, 3, 7, 32, 256)
		c, m, disk := drc.New(size), newModel(size), map[string]api.Change{}
		for range r.Intn(3 * size) {
			if x, ok := step(t, r, c, m); ok {
				disk[x.Key] = x
			}
		}
		again := drc.New(size)
		for _, x := range disk {
			if !again.Load(x) {
				t.Fatalf("Load(%v)", x)
			}
		}
		same(t, r, again, m)
		for range 2 * size {
			step(t, r, again, m)
			same(t, r, again, m)
		}
	}
}
