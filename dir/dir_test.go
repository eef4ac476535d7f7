package dir_test

import (
	"math"
	"math/rand"
	"slices"
	"strconv"
	"strings"
	"testing"

	"coracle/dir"
)

// model is a directory as the document's words tell it, without trees.
type model struct {
	entries []dir.Entry // by rising cookies
	next    int
	ever    int // names that were ever there
}

func (m *model) at(name string) int {
	return slices.IndexFunc(m.entries, func(e dir.Entry) bool { return e.Name == name })
}

func (m *model) lay(e dir.Entry) {
	i := 0
	for i < len(m.entries) && m.entries[i].Cookie < e.Cookie {
		i++
	}
	m.entries = slices.Insert(m.entries, i, e)
	m.next = max(m.next, e.Cookie+1)
	m.ever++
}

// after: what After should answer.
func (m *model) after(cookie, n int) []dir.Entry {
	var l []dir.Entry
	for _, e := range m.entries {
		if e.Cookie > cookie && len(l) < n {
			l = append(l, e)
		}
	}
	return l
}

// highest: the bound of P12.4, of so many names that were ever there.
func highest(ever int) int {
	height := 1
	for x := float64(ever); x >= 1; x /= 4 {
		height++
	}
	return height
}

// same: the directory tells what the model has, by all its calls that change nothing.
func same(t *testing.T, d *dir.Dir, m *model) {
	t.Helper()
	if got := d.After(math.MinInt, math.MaxInt); !slices.Equal(got, m.entries) {
		t.Fatalf("After: %v, not %v", got, m.entries)
	}
	for _, e := range m.entries {
		if got, ok := d.Get(e.Name); got != e || !ok {
			t.Fatalf("Get(%q): %v %v, not %v", e.Name, got, ok, e)
		}
	}
	if d.Next() != m.next {
		t.Fatalf("Next: %d, not %d", d.Next(), m.next)
	}
	size, byName, byCookie := d.Len()
	if size != len(m.entries) {
		t.Fatalf("Len: %d, not %d", size, len(m.entries))
	}
	if bound := highest(m.ever); byName > bound || byCookie > bound {
		t.Fatalf("heights %d and %d, above %d of %d names ever", byName, byCookie, bound, m.ever)
	}
	if (byName == 0) != (size == 0) || (byCookie == 0) != (size == 0) || byName < 0 || byCookie < 0 {
		t.Fatalf("heights %d and %d of %d names", byName, byCookie, size)
	}
}

func adds(t *testing.T, d *dir.Dir, name string, id, cookie int) {
	t.Helper()
	if got, ok := d.Add(name, id); got != cookie || !ok {
		t.Errorf("Add(%q): %d %v, not %d", name, got, ok, cookie)
	}
}

func noAdd(t *testing.T, d *dir.Dir, name string) {
	t.Helper()
	next := d.Next()
	if got, ok := d.Add(name, 7); got != 0 || ok || d.Next() != next {
		t.Errorf("Add(%q): %d %v", name, got, ok)
	}
}

func puts(t *testing.T, d *dir.Dir, e dir.Entry, want bool) {
	t.Helper()
	next := d.Next()
	if got := d.Put(e); got != want {
		t.Errorf("Put(%v): %v", e, got)
	}
	if want {
		next = max(next, e.Cookie+1)
	}
	if d.Next() != next {
		t.Errorf("Next behind Put(%v): %d, not %d", e, d.Next(), next)
	}
}

// noNames: what layer 11 refuses.
func noNames() []string {
	return []string{"", ".", "..", "/", "a/b", "a\x00", "\x00", strings.Repeat("a", 65), strings.Repeat("a", 1<<16)}
}

// P12.1, P12.3: a directory's zero value.
func TestEmpty(t *testing.T) {
	var d dir.Dir
	same(t, &d, &model{next: 3})
	if e, ok := d.Get("a"); e != (dir.Entry{}) || ok {
		t.Errorf("Get: %v %v", e, ok)
	}
	if e, ok := d.Remove("a"); e != (dir.Entry{}) || ok {
		t.Errorf("Remove: %v %v", e, ok)
	}
	same(t, d.Clone(), &model{next: 3})
	same(t, &d, &model{next: 3})
}

// The document's example.
func TestExample(t *testing.T) {
	var d dir.Dir
	adds(t, &d, "b", 1, 3)
	adds(t, &d, "a", 2, 4)
	if l := d.After(3, 9); !slices.Equal(l, []dir.Entry{{Name: "a", ID: 2, Cookie: 4}}) {
		t.Errorf("After: %v", l)
	}
	d.Remove("a")
	adds(t, &d, "a", 2, 5)
}

// P12.1: names that are none, or are there.
func TestAdd(t *testing.T) {
	var d dir.Dir
	m := &model{next: 3}
	for _, s := range noNames() {
		noAdd(t, &d, s)
	}
	for i, s := range []string{"a", "...", strings.Repeat("a", 64), "\xff", " ", "A"} {
		adds(t, &d, s, math.MinInt+i, 3+i)
		m.lay(dir.Entry{Name: s, ID: math.MinInt + i, Cookie: 3 + i})
		noAdd(t, &d, s)
	}
	same(t, &d, m)
	adds(t, &d, "z", 0, 9)
}

// P12.1: entries that may not be, for a reason each.
func TestPut(t *testing.T) {
	var d dir.Dir
	m := &model{next: 3}
	for _, s := range noNames() {
		puts(t, &d, dir.Entry{Name: s, ID: 1, Cookie: 9}, false)
	}
	for _, cookie := range []int{math.MinInt, -1, 0, 1, 2, 1<<62 + 1, math.MaxInt} {
		puts(t, &d, dir.Entry{Name: "a", ID: 1, Cookie: cookie}, false)
	}
	same(t, &d, m)
	for _, e := range []dir.Entry{{"a", 1, 9}, {"b", -5, 3}, {"c", 1, 8}, {"d", 0, 10}, {"e", math.MaxInt, 4}} {
		puts(t, &d, e, true)
		m.lay(e)
		puts(t, &d, e, false)
		puts(t, &d, dir.Entry{Name: e.Name, ID: 1, Cookie: 70}, false)
		puts(t, &d, dir.Entry{Name: "new", ID: 1, Cookie: e.Cookie}, false)
	}
	same(t, &d, m)
	adds(t, &d, "f", 1, 11)
	puts(t, &d, dir.Entry{Name: "g", ID: 1, Cookie: 11}, false)
}

// P12.1: the greatest cookie that may be told; Add goes on behind it.
func TestGreatestCookie(t *testing.T) {
	var d dir.Dir
	m := &model{next: 3}
	greatest := dir.Entry{Name: "a", ID: 1, Cookie: 1 << 62}
	puts(t, &d, greatest, true)
	m.lay(greatest)
	for i := range 3 {
		s := "b" + strconv.Itoa(i)
		adds(t, &d, s, i, 1<<62+1+i)
		m.lay(dir.Entry{Name: s, ID: i, Cookie: 1<<62 + 1 + i})
	}
	d.Least(1 << 62)
	same(t, &d, m)
	if l := d.After(1<<62+1, 1); len(l) != 1 || l[0].Name != "b1" {
		t.Errorf("After: %v", l)
	}
	if l := d.After(math.MaxInt, 9); len(l) != 0 {
		t.Errorf("After: %v", l)
	}
}

// P12.2: a cookie that was given isn't given again by Add, but an entry that is known may have it.
func TestRemove(t *testing.T) {
	var d dir.Dir
	adds(t, &d, "a", 1, 3)
	adds(t, &d, "b", 2, 4)
	if e, ok := d.Remove("b"); e != (dir.Entry{Name: "b", ID: 2, Cookie: 4}) || !ok {
		t.Errorf("Remove: %v %v", e, ok)
	}
	for _, s := range append(noNames(), "b", "c") {
		if e, ok := d.Remove(s); e != (dir.Entry{}) || ok {
			t.Errorf("Remove(%q): %v %v", s, e, ok)
		}
		if e, ok := d.Get(s); e != (dir.Entry{}) || ok {
			t.Errorf("Get(%q): %v %v", s, e, ok)
		}
	}
	d.Remove("a")
	same(t, &d, &model{next: 5})
	adds(t, &d, "b", 2, 5)
	puts(t, &d, dir.Entry{Name: "a", ID: 9, Cookie: 4}, true)
	same(t, &d, &model{entries: []dir.Entry{{"a", 9, 4}, {"b", 2, 5}}, next: 6, ever: 4})
	d.Remove("b")
	adds(t, &d, "b", 2, 6)
}

// P12.3: Least counts from 3 to 2^62, and upwards only.
func TestLeast(t *testing.T) {
	var d dir.Dir
	for _, c := range []struct{ least, next int }{
		{math.MinInt, 3}, {-1, 3}, {0, 3}, {2, 3}, {3, 3}, {4, 4}, {3, 4}, {1<<62 + 1, 4}, {math.MaxInt, 4}, {90, 90}, {89, 90}, {2, 90},
	} {
		d.Least(c.least)
		if d.Next() != c.next {
			t.Errorf("Next behind Least(%d): %d, not %d", c.least, d.Next(), c.next)
		}
	}
	adds(t, &d, "a", 1, 90)
	d.Least(91)
	adds(t, &d, "b", 1, 91)
	puts(t, &d, dir.Entry{Name: "c", ID: 1, Cookie: 50}, true)
	d.Least(1 << 62)
	adds(t, &d, "d", 1, 1<<62)
	adds(t, &d, "e", 1, 1<<62+1)
}

// P12.3: from each cookie on, so many.
func TestAfter(t *testing.T) {
	var d dir.Dir
	m := &model{next: 3}
	for i := range 150 {
		e := dir.Entry{Name: strconv.Itoa(i * 7919 % 150), ID: i, Cookie: 3 + i*53%150*2}
		puts(t, &d, e, true)
		m.lay(e)
	}
	for cookie := -2; cookie < 310; cookie++ {
		for _, n := range []int{math.MinInt, -1, 0, 1, 2, 149, 150, 151, math.MaxInt} {
			if got := d.After(cookie, n); !slices.Equal(got, m.after(cookie, n)) {
				t.Fatalf("After(%d, %d): %v", cookie, n, got)
			}
		}
	}
	for _, cookie := range []int{math.MinInt, math.MaxInt} {
		if got := d.After(cookie, 9); !slices.Equal(got, m.after(cookie, 9)) {
			t.Errorf("After(%d, 9): %v", cookie, got)
		}
	}
	l := d.After(0, 150)
	for i := range l[:cap(l)] {
		l[:cap(l)][i] = dir.Entry{Name: "spoilt"}
	}
	same(t, &d, m)
}

// P12.3: a clone and what it was made of change on their own.
func TestClone(t *testing.T) {
	var d dir.Dir
	m := &model{next: 3}
	add := func(d *dir.Dir, m *model, s string) {
		m.lay(dir.Entry{Name: s, ID: 1, Cookie: m.next})
		adds(t, d, s, 1, m.next-1)
	}
	for i := range 100 {
		add(&d, m, "a"+strconv.Itoa(i))
	}
	d.Least(200)
	m.next = 200
	c, cm := d.Clone(), &model{entries: slices.Clone(m.entries), next: m.next, ever: m.ever}
	_, n1, k1 := d.Len()
	if _, n2, k2 := c.Len(); n1 != n2 || k1 != k2 {
		t.Errorf("heights %d and %d, not %d and %d", n2, k2, n1, k1)
	}
	for i := range 100 {
		add(&d, m, "b"+strconv.Itoa(i))
		same(t, c, cm)
		c.Remove("a" + strconv.Itoa(i))
		cm.entries = slices.Delete(cm.entries, 0, 1)
		same(t, &d, m)
	}
	same(t, c, cm)
	c.Least(1000)
	puts(t, c, dir.Entry{Name: "z", ID: 1, Cookie: 5}, true)
	same(t, &d, m)
	same(t, c.Clone(), &model{entries: []dir.Entry{{"z", 1, 5}}, next: 1000, ever: 101})
}

// P12.4: the bound itself, as the document's words reckon it.
func TestHighest(t *testing.T) {
	for _, c := range []struct{ ever, height int }{{0, 1}, {1, 2}, {3, 2}, {4, 3}, {15, 3}, {16, 4}, {63, 4}, {64, 5}} {
		if highest(c.ever) != c.height {
			t.Errorf("%d of %d", highest(c.ever), c.ever)
		}
	}
}

// P12.4: heights behind each name that comes in order, and behind each that goes.
func TestHeights(t *testing.T) {
	r := rand.New(rand.NewSource(1243))
	const count = 5000
	for _, order := range [][]int{nil, r.Perm(count)} {
		var d dir.Dir
		for i := range count {
			s := strconv.Itoa(10000 + i)
			if order != nil {
				s = strconv.Itoa(order[i])
			}
			adds(t, &d, s, i, 3+i)
			size, byName, byCookie := d.Len()
			if bound := highest(i + 1); size != i+1 || byName > bound || byCookie > bound || byName < 1 || byCookie < 1 {
				t.Fatalf("Len of %d: %d %d %d", i+1, size, byName, byCookie)
			}
		}
		for i, e := range d.After(0, count) {
			d.Remove(e.Name)
			size, byName, byCookie := d.Len()
			if bound := highest(count); size != count-1-i || byName > bound || byCookie > bound {
				t.Fatalf("Len of %d: %d %d %d", count-1-i, size, byName, byCookie)
			}
		}
		same(t, &d, &model{next: 3 + count, ever: count})
	}
}

// P12.5: of a nil *Dir.
func TestNil(t *testing.T) {
	var d *dir.Dir
	if c, ok := d.Add("a", 1); c != 0 || ok {
		t.Error("Add")
	}
	if d.Put(dir.Entry{Name: "a", ID: 1, Cookie: 3}) {
		t.Error("Put")
	}
	if e, ok := d.Get("a"); e != (dir.Entry{}) || ok {
		t.Error("Get")
	}
	if e, ok := d.Remove("a"); e != (dir.Entry{}) || ok {
		t.Error("Remove")
	}
	if len(d.After(0, 9)) != 0 || d.Next() != 0 || d.Clone() != nil {
		t.Error("After, Next or Clone")
	}
	d.Least(9)
	if a, b, c := d.Len(); a != 0 || b != 0 || c != 0 {
		t.Error("Len")
	}
}

// P12.1 to P12.4: scripts by chance, held against the model step by step.
func TestByChance(t *testing.T) {
	for seed := range 60 {
		r := rand.New(rand.NewSource(int64(seed)))
		names := 1 + r.Intn(120)
		grows := 1 + r.Intn(9) // of ten steps so many lay names
		d, m := &dir.Dir{}, &model{next: 3}
		for range 600 {
			step(t, r, d, m, strconv.Itoa(r.Intn(names)), r.Intn(10) < grows)
			if r.Intn(50) == 0 {
				d = d.Clone()
			}
			same(t, d, m)
		}
	}
}

// step: one call that lays or takes a name.
func step(t *testing.T, r *rand.Rand, d *dir.Dir, m *model, name string, lays bool) {
	t.Helper()
	i := m.at(name)
	e := dir.Entry{Name: name, ID: r.Int(), Cookie: 1 + r.Intn(m.next+3)}
	switch {
	case !lays && i < 0:
		if got, ok := d.Remove(name); got != (dir.Entry{}) || ok {
			t.Fatalf("Remove(%q): %v %v", name, got, ok)
		}
	case !lays:
		if got, ok := d.Remove(name); got != m.entries[i] || !ok {
			t.Fatalf("Remove(%q): %v %v", name, got, ok)
		}
		m.entries = slices.Delete(m.entries, i, i+1)
	case r.Intn(3) > 0:
		if i >= 0 {
			noAdd(t, d, name)
			return
		}
		e.Cookie = m.next
		adds(t, d, name, e.ID, e.Cookie)
		m.lay(e)
	default:
		taken := slices.ContainsFunc(m.entries, func(x dir.Entry) bool { return x.Cookie == e.Cookie })
		good := i < 0 && !taken && e.Cookie >= 3
		puts(t, d, e, good)
		if good {
			m.lay(e)
		}
	}
}
