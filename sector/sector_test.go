package sector_test

import (
	"math"
	"math/rand"
	"strings"
	"testing"

	"coracle/api"
	"coracle/sector"
)

func filled(s string) string { return s + strings.Repeat("\x00", 256-len(s)) }

func made(t *testing.T, sectors int) *sector.Disk {
	t.Helper()
	d, e := sector.New(sectors)
	if e != api.OK || d == nil {
		t.Fatalf("New(%d): %d", sectors, e)
	}
	return d
}

// writes: text i into sector i, for each text.
func writes(t *testing.T, d *sector.Disk, texts ...string) {
	t.Helper()
	for i, s := range texts {
		if e := d.Write(i, s); e != api.OK {
			t.Fatalf("Write(%d): %d", i, e)
		}
	}
}

// holds: sector i holds text i.
func holds(t *testing.T, d *sector.Disk, texts ...string) {
	t.Helper()
	for i, s := range texts {
		if got, e := d.Read(i); e != api.OK || got != filled(s) {
			t.Errorf("Read(%d): %d bytes %.8q, %d, not %.8q", i, len(got), got, e, s)
		}
	}
}

// P4.1: which disks there are.
func TestNew(t *testing.T) {
	for _, n := range []int{0, -1, api.MaxSectors + 1, math.MinInt, math.MaxInt} {
		if d, e := sector.New(n); d != nil || e != api.ErrArg {
			t.Errorf("New(%d): %d", n, e)
		}
	}
	for _, n := range []int{1, 2, 66, api.MaxSectors} {
		d := made(t, n)
		if d.Size() != n || d.Off() {
			t.Errorf("New(%d): %d", n, d.Size())
		}
		holds(t, d, make([]string, n)...)
		if w, f := d.Counts(); w != 0 || f != 0 {
			t.Errorf("Counts %d %d", w, f)
		}
	}
}

// P4.2: what is written is read, ahead of a flush and behind it.
func TestWriteRead(t *testing.T) {
	d := made(t, 3)
	full := strings.Repeat("\xff", 256)
	writes(t, d, "a", full, "")
	holds(t, d, "a", full, "")
	writes(t, d, "longer")
	writes(t, d, "b", full[:255])
	holds(t, d, "b", full[:255], "")
	if d.Flush() != api.OK {
		t.Error("Flush")
	}
	holds(t, d, "b", full[:255], "")
	writes(t, d, "")
	holds(t, d, "", full[:255], "")
	if w, f := d.Counts(); w != 7 || f != 1 {
		t.Errorf("Counts %d %d", w, f)
	}
}

// P4.2: ErrArg, which comes ahead of ErrPower, and changes nothing.
func TestWrongSectors(t *testing.T) {
	d := made(t, 2)
	long := strings.Repeat("a", 257)
	wrong := func() {
		t.Helper()
		for _, n := range []int{-1, 2, 3, math.MinInt, math.MaxInt} {
			if d.Write(n, "x") != api.ErrArg || d.Write(n, long) != api.ErrArg {
				t.Errorf("Write(%d)", n)
			}
			if s, e := d.Read(n); s != "" || e != api.ErrArg {
				t.Errorf("Read(%d)", n)
			}
		}
		if d.Write(0, long) != api.ErrArg {
			t.Error("Write of 257 bytes")
		}
	}
	writes(t, d, "a", "b")
	d.Cut(1, 0)
	wrong() // and none of these is the one in which the power goes off
	holds(t, d, "a", "b")
	if d.Flush() != api.ErrPower {
		t.Error("Flush")
	}
	wrong()
	if s, e := d.Read(0); s != "" || e != api.ErrPower {
		t.Errorf("Read: %q %d", s, e)
	}
	if d.Write(0, "x") != api.ErrPower || d.Flush() != api.ErrPower || !d.Off() {
		t.Error("the power is off")
	}
	if w, f := d.Counts(); w != 2 || f != 0 {
		t.Errorf("Counts %d %d", w, f)
	}
}

// P4.3: what a crash keeps.
func TestCrash(t *testing.T) {
	for keep, want := range map[int][]string{
		0:           {"", "", ""},
		1:           {"a", "", ""},
		2:           {"", "b", ""},
		4:           {"", "", "c"},
		5:           {"a", "", "c"},
		7:           {"a", "b", "c"},
		8:           {"", "", ""},
		-1:          {"a", "b", "c"},
		-2:          {"", "b", "c"},
		-8:          {"", "", ""},
		math.MaxInt: {"a", "b", "c"},
		math.MinInt: {"", "", ""},
		1 << 60:     {"", "", ""},
	} {
		d := made(t, 3)
		writes(t, d, "a", "b", "c")
		d.Crash(keep)
		holds(t, d, want...)
		d.Crash(-1)
		holds(t, d, want...)
		if d.Off() {
			t.Error("the power is off")
		}
	}
}

// P4.3: what was flushed lasts, and the queue is counted anew behind each flush and crash.
func TestCrashBehindFlush(t *testing.T) {
	d := made(t, 3)
	writes(t, d, "a", "b", "c")
	d.Flush()
	writes(t, d, "x", "y")
	d.Crash(2)
	holds(t, d, "a", "y", "c")
	writes(t, d, "q")
	d.Crash(1)
	holds(t, d, "q", "y", "c")
	writes(t, d, "r")
	d.Crash(^1)
	holds(t, d, "q", "y", "c")
	if w, f := d.Counts(); w != 7 || f != 1 {
		t.Errorf("Counts %d %d", w, f)
	}
}

// P4.3: of several writes of one sector the last one that lasts counts.
func TestCrashOneSector(t *testing.T) {
	for keep, want := range []string{"o", "a", "b", "b", "c", "c", "c", "c"} {
		d := made(t, 1)
		writes(t, d, "o")
		d.Flush()
		writes(t, d, "a")
		writes(t, d, "b")
		writes(t, d, "c")
		holds(t, d, "c")
		d.Crash(keep)
		holds(t, d, want)
	}
}

// P4.3: the bits are gone through again from the sixtieth write on.
func TestCrashManyWrites(t *testing.T) {
	for _, keep := range []int{0, 1, 2, 1 << 58, 1 << 59, 1 << 60, 1 << 61, 1 << 62, math.MinInt, -1, -1 << 59, 0x0123456789abcdef} {
		d := made(t, 200)
		for i := range 200 {
			d.Write(i, "x")
		}
		d.Crash(keep)
		for i := range 200 {
			want := ""
			if uint64(keep)&(1<<uint(i%60)) != 0 {
				want = "x"
			}
			if s, _ := d.Read(i); s != filled(want) {
				t.Errorf("keep %x: write %d: %.1q", uint64(keep), i, s)
			}
		}
	}
}

// P4.3: a cut in a write: it stands in the queue last.
func TestCutWrite(t *testing.T) {
	for keep, want := range [][]string{{"", "", ""}, {"a", "", ""}, {"", "b", ""}, {"a", "b", ""}, {"", "", "c"}, {"a", "", "c"}} {
		d := made(t, 3)
		d.Cut(3, keep)
		writes(t, d, "a", "b")
		if d.Off() || d.Write(2, "c") != api.ErrPower || !d.Off() {
			t.Error("Cut")
		}
		d.Crash(-1) // the queue is empty: there is nothing more to keep
		holds(t, d, want...)
		if w, _ := d.Counts(); w != 2 {
			t.Errorf("Counts %d", w)
		}
	}
}

// P4.3: a cut in a flush: nothing is flushed, but what keep tells.
func TestCutFlush(t *testing.T) {
	d := made(t, 2)
	writes(t, d, "a", "b")
	d.Cut(2, 2)
	if d.Flush() != api.OK {
		t.Error("the first flush")
	}
	writesAndFlush := func(want api.Errno) {
		t.Helper()
		writes(t, d, "c", "d")
		if e := d.Flush(); e != want {
			t.Errorf("Flush: %d", e)
		}
	}
	d.Cut(3, 2)
	writesAndFlush(api.ErrPower)
	d.On()
	holds(t, d, "a", "d")
	writesAndFlush(api.OK) // the cut has been
	holds(t, d, "c", "d")
	if w, f := d.Counts(); w != 6 || f != 2 {
		t.Errorf("Counts %d %d", w, f)
	}
}

// P4.3: n below 1 counts as 1, reads don't count, and a further Cut takes the place of the one before.
func TestCutWhen(t *testing.T) {
	for _, n := range []int{1, 0, -1, math.MinInt} {
		d := made(t, 1)
		d.Cut(n, 1)
		d.Read(0)
		if d.Off() || d.Write(0, "a") != api.ErrPower || !d.Off() {
			t.Errorf("Cut(%d)", n)
		}
		d.On()
		holds(t, d, "a")
	}
	d := made(t, 1)
	d.Cut(1, -1)
	d.Cut(math.MaxInt, -1)
	writes(t, d, "a")
	d.Cut(2, 0)
	writes(t, d, "b")
	d.Cut(2, 1)
	writes(t, d, "c")
	if d.Flush() != api.ErrPower {
		t.Error("the last cut")
	}
	d.On()
	holds(t, d, "a")
}

// P4.3: On and Crash take a cut away; of what stands in the queue On takes nothing.
func TestOn(t *testing.T) {
	d := made(t, 2)
	writes(t, d, "a", "b")
	d.Cut(1, 0)
	d.On()
	holds(t, d, "a", "b")
	writes(t, d, "c")
	d.Crash(6) // b and c
	holds(t, d, "c", "b")
	d.Cut(1, 0)
	d.Crash(0)
	if d.Write(0, "d") != api.OK || d.Flush() != api.OK {
		t.Error("a cut behind a crash")
	}
	d.Cut(1, 0)
	d.Flush()
	d.Cut(1, 0) // while the power is off
	if d.Write(0, "e") != api.ErrPower || !d.Off() {
		t.Error("a write while the power is off")
	}
	d.On()
	if d.Off() || d.Write(0, "f") != api.OK || d.Flush() != api.OK {
		t.Error("a cut that On took away")
	}
	holds(t, d, "f", "b")
}

// P4.4: a nil disk.
func TestNil(t *testing.T) {
	var d *sector.Disk
	d.Cut(1, 1)
	d.Crash(1)
	d.On()
	if d.Size() != 0 || d.Write(0, "") != api.ErrArg || d.Flush() != api.ErrArg || d.Off() {
		t.Error("a nil disk")
	}
	if s, e := d.Read(0); s != "" || e != api.ErrArg {
		t.Errorf("Read: %q %d", s, e)
	}
	if w, f := d.Counts(); w != 0 || f != 0 {
		t.Errorf("Counts %d %d", w, f)
	}
}

// model is a disk as the chapter tells it, word by word: what lasts, and the queue, through which reads go from its end.
type model struct {
	lasts           [4]string
	sectors         []int
	texts           []string
	off, cutSet     bool
	cut, keep       int
	writes, flushes int
}

func (m *model) read(n int) string {
	for i := len(m.sectors) - 1; i >= 0; i-- {
		if m.sectors[i] == n {
			return m.texts[i]
		}
	}
	return m.lasts[n]
}

func (m *model) loss(keep int) {
	for i, n := range m.sectors {
		if uint64(keep)&(1<<uint(i%60)) != 0 {
			m.lasts[n] = m.texts[i]
		}
	}
	m.sectors, m.texts = nil, nil
}

// cutNow: the power goes off in this call.
func (m *model) cutNow() bool {
	if m.cutSet {
		m.cut--
	}
	if !m.cutSet || m.cut > 0 {
		return false
	}
	m.cutSet, m.off = false, true
	m.loss(m.keep)
	return true
}

func (m *model) write(n int, s string) api.Errno {
	if m.off {
		return api.ErrPower
	}
	m.sectors, m.texts = append(m.sectors, n), append(m.texts, s)
	if m.cutNow() {
		return api.ErrPower
	}
	m.writes++
	return api.OK
}

func (m *model) flush() api.Errno {
	if m.off || m.cutNow() {
		return api.ErrPower
	}
	m.loss(-1)
	m.flushes++
	return api.OK
}

// step: one call by chance, of the disk and of the model; do they answer the same?
func (m *model) step(chance *rand.Rand, d *sector.Disk) bool {
	keep := int(chance.Uint64())
	switch chance.Intn(20) {
	case 0:
		d.Crash(keep)
		m.loss(keep)
		m.off, m.cutSet = false, false
	case 1:
		n := chance.Intn(40) - 2
		d.Cut(n, keep)
		m.cutSet, m.cut, m.keep = true, max(n, 1), keep
	case 2, 3:
		d.On()
		m.off, m.cutSet = false, false
	case 4:
		return d.Flush() == m.flush()
	default:
		n := chance.Intn(len(m.lasts))
		s := string([]byte{byte(chance.Intn(256)), byte(chance.Intn(256))})
		return d.Write(n, s) == m.write(n, s)
	}
	return true
}

// is: is the disk just as the model tells?
func (m *model) is(d *sector.Disk) bool {
	w, f := d.Counts()
	if d.Off() != m.off || w != m.writes || f != m.flushes {
		return false
	}
	for n := range m.lasts {
		s, e := d.Read(n)
		if m.off && (s != "" || e != api.ErrPower) || !m.off && (s != filled(m.read(n)) || e != api.OK) {
			return false
		}
	}
	return true
}

// P4.2, P4.3, P4.4: calls by chance, held against the model.
func TestByChance(t *testing.T) {
	chance := rand.New(rand.NewSource(5))
	for round := range 200 {
		d := made(t, 4)
		m := &model{}
		for step := range 300 {
			if !m.step(chance, d) || !m.is(d) {
				t.Fatalf("round %d, step %d", round, step)
			}
		}
	}
}

// Two disks have nothing to do with each other.
func TestApart(t *testing.T) {
	a, b := made(t, 1), made(t, 1)
	writes(t, a, "a")
	a.Flush()
	b.Cut(1, 0)
	holds(t, b, "")
	writes(t, a, "b")
	if b.Flush() != api.ErrPower || a.Off() {
		t.Error("a cut")
	}
}
