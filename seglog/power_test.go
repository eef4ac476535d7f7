package seglog_test

import (
	"math/rand"
	"slices"
	"testing"

	"coracle/api"
	"coracle/sector"
	"coracle/seglog"
)

// step is an Append of so many bytes, or a Drop.
type step struct {
	size, id int
	drops    bool
}

func (s step) asked(l *seglog.Log) api.Errno {
	if s.drops {
		return l.Drop(s.id)
	}
	_, e := l.Append(sized(s.size))
	return e
}

func (s step) told(m *model) api.Errno {
	if s.drops {
		return m.drop(s.id)
	}
	_, e := m.append(sized(s.size))
	return e
}

// segmentIDs: which segments, in order.
func segmentIDs(l segments) []int {
	var ids []int
	for _, s := range l {
		ids = append(ids, s.ID)
	}
	return ids
}

// deaf: a log in which the power went off writes no more, though the power is on again; what it tells is as it was.
func deaf(t *testing.T, l *seglog.Log, d *sector.Disk) {
	t.Helper()
	was, w := l.Segments(), imageOf(t, d)
	want := api.ErrPower
	if !l.Fits(0) && l.Free() == 0 {
		want = api.ErrFull // which is named first
	}
	for range 2 {
		if r, e := l.Append(""); r != (seglog.Record{}) || e != want {
			t.Errorf("Append behind a loss of power: %d, not %d", e, want)
		}
		for _, s := range was[:len(was)-1] {
			if e := l.Drop(s.ID); e != api.ErrPower {
				t.Errorf("Drop behind a loss of power: %d", e)
			}
		}
		if e := l.Drop(was[len(was)-1].ID); e != api.ErrArg {
			t.Errorf("Drop of the last one behind a loss of power: %d", e)
		}
		if _, e := l.Append(sized(longer)); e != api.ErrLong {
			t.Errorf("Append of a long body behind a loss of power: %d", e)
		}
	}
	if !slices.Equal(l.Segments(), was) || !slices.Equal(imageOf(t, d), w) {
		t.Error("a loss of power was written over")
	}
}

// outlasts: behind a loss of power in a step, the log is as it was ahead of it or behind it; the log and the model that go on.
func outlasts(t *testing.T, d *sector.Disk, ahead *model, s step) (*seglog.Log, *model) {
	t.Helper()
	behind := ahead.clone()
	if e := s.told(behind); e != api.OK {
		t.Fatalf("the model tells %d", e)
	}
	l, m := reopened(t, d)
	ids := segmentIDs(m.segments)
	was := slices.Equal(m.records, ahead.records)
	done := slices.Equal(m.records, behind.records)
	if !was && !done {
		t.Errorf("%v: %d records, neither %d nor %d", s, len(m.records), len(ahead.records), len(behind.records))
	}
	if !slices.Equal(ids, segmentIDs(behind.segments)) && (!was || !slices.Equal(ids, segmentIDs(ahead.segments))) {
		t.Errorf("%v: segments %v", s, ids)
	}
	if m.boot != ahead.boot+1 {
		t.Errorf("%v: boot %d, was %d", s, m.boot, ahead.boot)
	}
	return l, m
}

// script: steps that fill a small disk, drop and fill again.
func script() []step {
	return []step{
		{size: 5}, {size: 3*full + 1}, {size: 0}, {size: 12 * full}, {size: 16 * full}, {drops: true, id: 0},
		{size: full}, {size: 15*full + 1}, {drops: true, id: 1}, {size: 1}, {drops: true, id: 2}, {size: 16 * full}, {drops: true, id: 0}, {size: 10 * full}, {size: 6 * full},
	}
}

// keeps: which of the queue last.
func keeps(r *rand.Rand) []int {
	return []int{0, -1, 1, 2, 0x5555555555555555, 0x2aaaaaaaaaaaaaaa, 1<<60 - 2, r.Int(), r.Int()}
}

// P5.5: the power goes off in each write and each flush of a script, whatever is kept.
func TestEveryLoss(t *testing.T) {
	r := rand.New(rand.NewSource(55))
	for n, over := 1, false; !over; n++ {
		for _, keep := range keeps(r) {
			d, l, m := opened(t, 66)
			d.Cut(n, keep)
			over = true
			for i, s := range script() {
				ahead := m.clone()
				want := s.told(m)
				e := s.asked(l)
				if e == api.ErrPower {
					over = false
					d.On()
					deaf(t, l, d)
					l, m = outlasts(t, d, ahead, s)
					appends(t, l, m, "more")
					reopened(t, d)
					break
				}
				if e != api.OK || want != api.OK {
					t.Fatalf("step %d: %d and %d", i, e, want)
				}
			}
			if t.Failed() {
				t.Fatalf("the power went off in step %d, with %#x kept", n, keep)
			}
		}
	}
}

// P5.5: the power goes off in an Open: nothing is lost, however often.
func TestLossInOpen(t *testing.T) {
	for _, keep := range []int{0, 1, -1} {
		for n := 1; n <= 2; n++ {
			d, l, m := opened(t, 66)
			appends(t, l, m, "a", sized(16*full), "b")
			for range 3 {
				d.Cut(n, keep)
				if l, got, e := seglog.Open(d); l != nil || len(got) != 0 || e != api.ErrPower {
					t.Errorf("Open: %d", e)
				}
				d.On()
			}
			if _, again := reopened(t, d); !slices.Equal(again.records, m.records) {
				t.Errorf("%d records, not %d", len(again.records), len(m.records))
			}
		}
	}
}

// P5.3: the power is off already, or went off and came again.
func TestPowerOff(t *testing.T) {
	d, l, m := opened(t, 66)
	appends(t, l, m, sized(16*full), "a")
	d.Cut(1, 0)
	d.Flush()
	if r, e := l.Append("b"); r != (seglog.Record{}) || e != api.ErrPower {
		t.Errorf("Append: %d", e)
	}
	if e := l.Drop(0); e != api.ErrPower {
		t.Errorf("Drop: %d", e)
	}
	if e := l.Drop(1); e != api.ErrArg {
		t.Errorf("Drop of the last one: %d", e)
	}
	m.told(t, l)
	d.On()
	deaf(t, l, d)
	m.told(t, l)
	l, m = reopened(t, d)
	appends(t, l, m, "c")
	d.Cut(1, 0)
	d.Flush()
	if e := l.Drop(0); e != api.ErrPower {
		t.Errorf("Drop: %d", e)
	}
	d.On()
	deaf(t, l, d)
	l, m = reopened(t, d)
	for l.Free() > 0 {
		appends(t, l, m, sized(16*full))
	}
	d.Cut(1, 0)
	if e := l.Drop(0); e != api.ErrPower {
		t.Errorf("Drop: %d", e)
	}
	d.On()
	deaf(t, l, d)
}

// P5.3: what a log tells behind a loss of power: a step that wasn't answered isn't counted, a segment that a flushed checkpoint told is.
func TestToldBehindLoss(t *testing.T) {
	for n := 1; n <= 4; n++ {
		d, l, m := opened(t, 66)
		appends(t, l, m, sized(16*full))
		d.Cut(n, -1)
		if r, e := l.Append("a"); r != (seglog.Record{}) || e != api.ErrPower {
			t.Errorf("Append: %d", e)
		}
		if n > 2 {
			m.extend()
		}
		m.told(t, l)
		d.On()
		m.told(t, l)
	}
}

// P5.5: logs by chance, with the power going off ever again.
func TestLossByChance(t *testing.T) {
	r := rand.New(rand.NewSource(56))
	losses := 0
	for range 150 {
		d, l, m := opened(t, 66+16*r.Intn(3))
		for range 60 {
			s := step{size: r.Intn(full * (1 + r.Intn(16)))}
			if r.Intn(3) == 0 {
				s = step{drops: true, id: r.Intn(m.total())}
			}
			if r.Intn(6) == 0 {
				d.Cut(1+r.Intn(12), r.Int()&r.Int()|r.Intn(4))
			}
			ahead := m.clone()
			want := s.told(m)
			e := s.asked(l)
			if e == api.ErrPower {
				losses++
				d.On()
				deaf(t, l, d)
				l, m = outlasts(t, d, ahead, s)
			} else if e != want {
				t.Errorf("%v: %d, not %d", s, e, want)
			}
			if t.Failed() {
				return
			}
		}
	}
	if losses < 300 {
		t.Errorf("the power went off %d times", losses)
	}
}
