package seglog_test

import (
	"math"
	"math/rand"
	"slices"
	"strings"
	"testing"

	"coracle/api"
	"coracle/sector"
	"coracle/seglog"
)

// P5.1: what Format lays on a disk, which lasts, and which sectors it leaves.
func TestFormat(t *testing.T) {
	for _, n := range []int{66, 67, 82, api.MaxSectors} {
		d := diskOf(t, slices.Repeat([]string{strings.Repeat("\xee", 256)}, n))
		if e := seglog.Format(d); e != api.OK {
			t.Errorf("Format of %d sectors: %d", n, e)
		}
		d.Crash(0)
		got := imageOf(t, d)
		if got[0] != checkpointOf(1, 0, 0, 0, 0) || got[1] != filled("") {
			t.Errorf("checkpoints %.40q and %.40q", got[0], got[1])
		}
		for i, s := range got[2:] {
			if s != strings.Repeat("\xee", 256) {
				t.Errorf("sector %d was written", i+2)
			}
		}
	}
}

// P5.1, P5.2: disks that can have no log, and those without power.
func TestWrongDisks(t *testing.T) {
	wrong := func(d *sector.Disk, want api.Errno) {
		t.Helper()
		if e := seglog.Format(d); e != want {
			t.Errorf("Format of %d sectors: %d, not %d", d.Size(), e, want)
		}
		if l, r, e := seglog.Open(d); l != nil || len(r) != 0 || e != want {
			t.Errorf("Open of %d sectors: %d, not %d", d.Size(), e, want)
		}
	}
	wrong(nil, api.ErrArg)
	for _, n := range []int{1, 2, 50, 65} {
		d := blank(t, n)
		wrong(d, api.ErrArg)
		if w, f := d.Counts(); w != 0 || f != 0 {
			t.Errorf("%d sectors were written", w)
		}
		d.Cut(1, 0)
		d.Flush()
		wrong(d, api.ErrArg)
	}
	d := blank(t, 66)
	seglog.Format(d)
	d.Cut(1, 0)
	d.Flush()
	wrong(d, api.ErrPower)
	d.On()
	for n := 1; n <= 3; n++ {
		d.Cut(n, 0)
		if e := seglog.Format(d); e != api.ErrPower {
			t.Errorf("the power goes off in step %d: Format %d", n, e)
		}
		d.On()
	}
	for n := 1; n <= 2; n++ {
		d.Cut(n, 0)
		if l, r, e := seglog.Open(d); l != nil || len(r) != 0 || e != api.ErrPower {
			t.Errorf("the power goes off in step %d: Open %d", n, e)
		}
		d.On()
	}
	reopened(t, d)
}

// P5.2: how many segments a disk has; what is behind them isn't used.
func TestSizes(t *testing.T) {
	for _, c := range []struct{ sectors, segments int }{{66, 4}, {67, 4}, {81, 4}, {82, 5}, {97, 5}, {98, 6}, {1025, 63}, {1026, 64}} {
		d, l, m := opened(t, c.sectors)
		if l.Free() != c.segments-1 {
			t.Errorf("%d sectors: %d are free", c.sectors, l.Free())
		}
		for range c.segments {
			appends(t, l, m, sized(16*full))
		}
		if r, e := l.Append(""); r != (seglog.Record{}) || e != api.ErrFull || l.Free() != 0 {
			t.Errorf("%d sectors: %d behind the last segment", c.sectors, e)
		}
		m.lies(t, d)
		_, m = reopened(t, d)
		if len(m.records) != c.segments {
			t.Errorf("%d sectors: %d records", c.sectors, len(m.records))
		}
	}
}

// P5.2: the example.
func TestExample(t *testing.T) {
	d, l, m := opened(t, 66)
	appends(t, l, m, "a", "b")
	d.Cut(1, 0)
	d.Flush()
	d.On()
	l, got, e := seglog.Open(d)
	if e != api.OK || l.Boot() != 2 || !slices.Equal(got, records{{Seq: 0, Body: "a"}, {Seq: 1, Body: "b"}}) {
		t.Errorf("Open: %v, %d, boot %d", got, e, l.Boot())
	}
}

// P5.3: bodies of all sizes at which their parts change, and how they lie there.
func TestAppend(t *testing.T) {
	var all []byte
	for i := range 256 {
		all = append(all, byte(i))
	}
	d, l, m := opened(t, 130)
	bodies := []string{"", "a", "\x00", sized(full - 1), sized(full), sized(full + 1), string(all), sized(2 * full), sized(2*full + 1), sized(15 * full), sized(15*full + 1), sized(16*full - 1), sized(16 * full)}
	for _, body := range bodies {
		appends(t, l, m, body)
		m.lies(t, d)
	}
	d.Crash(0)
	m.lies(t, d)
	_, m = reopened(t, d)
	for i, body := range bodies {
		if m.records[i].Body != body {
			t.Errorf("record %d has %d bytes", i, len(m.records[i].Body))
		}
	}
}

// P5.3: what is refused, which comes first, and that nothing is changed by it.
func TestAppendRefused(t *testing.T) {
	d, l, m := opened(t, 66)
	for range 3 {
		appends(t, l, m, sized(16*full))
	}
	appends(t, l, m, sized(15*full))
	w, f := d.Counts()
	for _, n := range []int{longer, longer + 1, 2 * longer, 1 << 20} {
		if r, e := l.Append(sized(n)); r != (seglog.Record{}) || e != api.ErrLong {
			t.Errorf("Append of %d bytes: %d", n, e)
		}
	}
	for _, n := range []int{full + 1, 2 * full, 16 * full} {
		if r, e := l.Append(sized(n)); r != (seglog.Record{}) || e != api.ErrFull {
			t.Errorf("Append of %d bytes: %d", n, e)
		}
	}
	if w2, f2 := d.Counts(); w2 != w || f2 != f {
		t.Error("what was refused was written")
	}
	m.told(t, l)
	m.lies(t, d)
	appends(t, l, m, sized(full), "", "x")
	drops(t, l, m, 2)
	appends(t, l, m, "y")
	drops(t, l, m, 1, 0, 3)
	appends(t, l, m, sized(16*full), sized(16*full))
	m.lies(t, d)
	reopened(t, d)
}

// P5.4: which segments can be dropped, and that their numbers come again, the least first.
func TestDrop(t *testing.T) {
	d, l, m := opened(t, 98)
	drops(t, l, m, 0, 1, -1)
	for range 5 {
		appends(t, l, m, sized(16*full))
	}
	drops(t, l, m, 4, 5, 6, -1, 256, math.MinInt, math.MaxInt, 3, 1, 1)
	m.lies(t, d)
	d.Crash(0)
	m.lies(t, d)
	l, m = reopened(t, d)
	appends(t, l, m, "a", sized(16*full), "b")
	if want := (segments{{0, 16}, {2, 16}, {4, 16}, {1, 1}, {3, 16}, {5, 1}}); !slices.Equal(l.Segments(), want) {
		t.Errorf("Segments %v", l.Segments())
	}
	drops(t, l, m, 3, 0)
	m.lies(t, d)
	reopened(t, d)
}

// P5.4: what fits, at the edges.
func TestFits(t *testing.T) {
	_, l, m := opened(t, 66)
	fits := func(sizes map[int]bool) {
		t.Helper()
		for n, want := range sizes {
			if l.Fits(n) != want {
				t.Errorf("Fits(%d) is %v", n, !want)
			}
		}
	}
	fits(map[int]bool{0: true, 1: true, 16 * full: true, longer: false, -1: false, math.MinInt: false, math.MaxInt: false})
	appends(t, l, m, sized(14*full))
	fits(map[int]bool{0: true, full: true, full + 1: true, 2 * full: true, 2*full + 1: false, math.MaxInt: false})
	appends(t, l, m, "")
	fits(map[int]bool{0: true, full: true, full + 1: false, -1: false})
	appends(t, l, m, "")
	fits(map[int]bool{0: false, 1: false, -1: false, math.MinInt: false, math.MaxInt: false})
}

// P5.4: a log that is none.
func TestNil(t *testing.T) {
	var l *seglog.Log
	for _, body := range []string{"", "a", sized(longer)} {
		if r, e := l.Append(body); r != (seglog.Record{}) || e != api.ErrArg {
			t.Errorf("Append: %d", e)
		}
	}
	if l.Drop(0) != api.ErrArg || l.Drop(-1) != api.ErrArg || l.Fits(0) || len(l.Segments()) != 0 || l.Free() != 0 || l.Boot() != 0 {
		t.Error("a nil log")
	}
}

// P5.4: the list that is answered isn't the log's own.
func TestSegmentsNew(t *testing.T) {
	_, l, m := opened(t, 66)
	appends(t, l, m, sized(16*full), "a")
	got := l.Segments()
	got[0], got[1] = seglog.Segment{ID: 9, Used: 9}, seglog.Segment{ID: 8, Used: 8}
	_ = append(got[:1], got[1:]...)
	m.told(t, l)
	kept := l.Segments()
	appends(t, l, m, "b", sized(16*full))
	drops(t, l, m, 0)
	if !slices.Equal(kept, segments{{0, 16}, {1, 1}}) {
		t.Errorf("an answer is changed to %v", kept)
	}
}

// P5.2, P5.3, P5.4: logs by chance, each step of which the model tells, down to the bytes.
func TestByChance(t *testing.T) {
	r := rand.New(rand.NewSource(54))
	for range 60 {
		d, l, m := opened(t, 66+r.Intn(60))
		for range 60 {
			switch n := r.Intn(20); {
			case n < 12:
				appends(t, l, m, sized(r.Intn(full*(1+r.Intn(17)))))
			case n < 18:
				drops(t, l, m, r.Intn(m.total()+1))
			default:
				d.Crash(r.Int())
				l, m = reopened(t, d)
			}
			m.lies(t, d)
		}
		if t.Failed() {
			return
		}
	}
}
