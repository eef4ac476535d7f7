package seglog_test

import (
	"math/rand"
	"slices"
	"strings"
	"testing"

	"coracle/api"
	"coracle/seglog"
)

// emptyImage: the noughts of a disk.
func emptyImage(sectors int) []string { return slices.Repeat([]string{filled("")}, sectors) }

// held: Open tells what the model does of such a disk, and changes one checkpoint alone or nothing.
func held(t *testing.T, image []string) api.Errno {
	t.Helper()
	d := diskOf(t, image)
	w, f := d.Counts()
	m, want := look(image)
	l, got, e := seglog.Open(d)
	if e != want {
		t.Errorf("Open: %d, not %d", e, want)
		return want
	}
	w2, f2 := d.Counts()
	if e != api.OK {
		if l != nil || len(got) != 0 || w2 != w || f2 != f {
			t.Errorf("Open: %d with %d records and %d writes", e, len(got), w2-w)
		}
		return want
	}
	m.open()
	if !slices.Equal(got, m.records) || w2 != w+1 || f2 != f+1 {
		t.Errorf("Open: %d records, not %d; %d writes", len(got), len(m.records), w2-w)
	}
	m.told(t, l)
	m.lies(t, d)
	d.Crash(0)
	m.lies(t, d)
	return want
}

// P5.2: which checkpoints are right.
func TestCheckpoints(t *testing.T) {
	right := checkpointOf(5, 3, 0, 2, 0, 0, 0)
	var all []byte
	for i := range 4 {
		all = append(all, byte(3-i), 0)
	}
	spoilt := func(at int, b byte) string { return right[:at] + string([]byte{b}) + right[at+1:] }
	for _, c := range []struct {
		text string
		want api.Errno
	}{
		{right, api.OK}, {checkpointOf(0, 0, 0, 0, 0), api.OK}, {checkpointOf(9, 9, 9, all...), api.OK}, {checkpointOf(9, 9, 9, 3, 0), api.OK},
		{checkpointOf(most-1, most-1, most-1, 0, 0), api.OK},
		{checkpointOf(most, 1, 1, 0, 0), api.ErrFull}, {checkpointOf(1, most, 1, 0, 0), api.ErrFull}, {checkpointOf(1, 1, most, 0, 0), api.ErrFull},
		{checkpointOf(most+1, 1, 1, 0, 0), api.ErrForm}, {checkpointOf(1, most+1, 1, 0, 0), api.ErrForm}, {checkpointOf(1, 1, most+1, 0, 0), api.ErrForm},
		{checkpointOf(1<<63, 1, 1, 0, 0), api.ErrForm}, {checkpointOf(1, 1<<63+1, 1, 0, 0), api.ErrForm}, {checkpointOf(1, 1, 1<<64-1, 0, 0), api.ErrForm},
		{checkpointOf(1, 1, 1), api.ErrForm}, {checkpointOf(1, 1, 1, append(all, 4, 0)...), api.ErrForm}, {checkpointOf(1, 1, 1, append(all, 0, 0)...), api.ErrForm},
		{checkpointOf(1, 1, 1, 4, 0), api.ErrForm}, {checkpointOf(1, 1, 1, 255, 0), api.ErrForm},
		{checkpointOf(1, 1, 1, 1, 0, 1, 0), api.ErrForm}, {checkpointOf(1, 1, 1, 1, 0, 2, 0, 1, 0), api.ErrForm},
		{checkpointOf(1, 1, 1, 0, 17), api.ErrForm}, {checkpointOf(1, 1, 1, 0, 255, 1, 0), api.ErrForm},
		{spoilt(0, 'R'), api.ErrForm}, {spoilt(0, 0), api.ErrForm}, {spoilt(30, 1), api.ErrForm}, {spoilt(255, 1), api.ErrForm}, {spoilt(100, 'C'), api.ErrForm},
		{spoilt(25, 1), api.OK}, {spoilt(25, 3), api.ErrForm}, {spoilt(25, 255), api.ErrForm}, {spoilt(25, 0), api.ErrForm},
		{filled(""), api.ErrForm}, {strings.Repeat("\xff", 256), api.ErrForm}, {strings.Repeat("C", 256), api.ErrForm},
	} {
		for home := range 2 {
			image := emptyImage(66)
			image[home] = c.text
			if e := held(t, image); e != c.want {
				t.Errorf("the model tells %d, not %d, of %.40q", e, c.want, c.text)
			}
		}
	}
}

// P5.2: which of two checkpoints counts, and where the new one goes.
func TestTwoCheckpoints(t *testing.T) {
	wrong := checkpointOf(9, 1, 0, 9, 0)
	for _, c := range []struct {
		first, second string
		segment       int
	}{
		{checkpointOf(1, 1, 0, 1, 0), checkpointOf(2, 1, 0, 2, 0), 2}, {checkpointOf(3, 1, 0, 1, 0), checkpointOf(2, 1, 0, 2, 0), 1},
		{checkpointOf(2, 1, 0, 1, 0), checkpointOf(2, 1, 0, 2, 0), 1}, {checkpointOf(0, 1, 0, 1, 0), checkpointOf(0, 1, 0, 2, 0), 1},
		{wrong, checkpointOf(2, 1, 0, 2, 0), 2}, {checkpointOf(2, 1, 0, 1, 0), wrong, 1},
		{checkpointOf(255, 1, 0, 1, 0), checkpointOf(256, 1, 0, 2, 0), 2}, {checkpointOf(1, 9, 9, 1, 0), checkpointOf(2, 0, 0, 2, 0), 2},
	} {
		image := emptyImage(66)
		image[0], image[1] = c.first, c.second
		held(t, image)
		if l, _, e := seglog.Open(diskOf(t, image)); e != api.OK || l.Segments()[0].ID != c.segment {
			t.Errorf("the checkpoint of segment %d should count", c.segment)
		}
	}
}

// P5.2: what stands in used sectors, or behind them.
func TestRecords(t *testing.T) {
	big := sized(3*full + 5)
	three := recordOf(1, 4, sized(2*full+1))
	mixed := func(at int, text string) []string {
		return append(append(slices.Clone(three[:at]), text), three[at+1:]...)
	}
	part := sized(full)
	for i, c := range []struct {
		sectors []string // of segment 1
		ok      bool     // is it a whole record of boot 1 and sequence number 4?
	}{
		{recordOf(1, 4, ""), true}, {recordOf(1, 4, "a"), true}, {recordOf(1, 4, part), true}, {recordOf(1, 4, big), true}, {three, true}, {recordOf(1, 4, sized(16*full)), true},
		{[]string{partOf(1, 4, 0, 1, 1, "abc")}, true}, {mixed(2, three[2]+"behind"), true},
		{three[:2], false}, {three[1:], false}, {[]string{three[0], three[2], three[1]}, false}, {[]string{three[0], three[0], three[1]}, false},
		{mixed(1, partOf(2, 4, 1, 3, full, part)), false}, {mixed(1, partOf(1, 5, 1, 3, full, part)), false}, {mixed(1, partOf(1, 4, 1, 4, full, part)), false}, {mixed(1, partOf(1, 4, 1, 2, full, part)), false},
		{mixed(1, partOf(1, 4, 2, 3, full, part)), false}, {mixed(1, partOf(1, 4, 0, 3, full, part)), false},
		{mixed(1, partOf(1, 4, 1, 3, full-1, part)), true}, {mixed(0, partOf(1, 4, 0, 3, 0, "")), true}, {mixed(2, partOf(1, 4, 2, 3, full, part)), true}, {mixed(2, partOf(1, 4, 2, 3, 0, "")), true},
		{mixed(2, partOf(1, 4, 2, 3, full+1, part)), false}, {mixed(2, partOf(1, 4, 2, 3, 256, part)), false}, {mixed(2, "S"+three[2][1:]), false}, {mixed(0, "r"+three[0][1:]), false}, {mixed(2, ""), false},
		{[]string{partOf(1, 4, 0, 0, 0, "")}, false}, {[]string{partOf(1, 4, 1, 1, 0, "")}, false}, {[]string{partOf(1, 4, 0, 1, full+1, part)}, false}, {[]string{partOf(1, 4, 0, 1, 65535, part)}, false},
		{[]string{partOf(1, 4, 0, 17, full, part)}, false}, {[]string{partOf(1, 4, 0, 257, full, part)}, false}, {[]string{partOf(1, 4, 256, 1, 0, "")}, false}, {[]string{partOf(1, 4, 0, 2, full, part)}, false},
		{[]string{partOf(1, 4, 0, 2, 20, part), partOf(1, 4, 1, 2, 20, part)}, true}, {[]string{partOf(1, 4, 0, 2, 100, part), partOf(1, 4, 1, 2, 200, part)}, true}, {[]string{partOf(1, 4, 0, 2, full+1, part), partOf(1, 4, 1, 2, 0, "")}, false},
		{partsOf(1, 4, make([]string, 16)...), true}, {partsOf(1, 4, make([]string, 16)...)[:15], false}, {[]string{partOf(1, 4, 0, 2, 0, ""), partOf(1, 4, 1, 3, 0, "")}, false}, {[]string{partOf(1, 4, 0, 2, 0, ""), partOf(2, 4, 1, 2, 0, "")}, false},
	} {
		image := emptyImage(66)
		for j, s := range c.sectors {
			image[2+16+j] = filled(s)
		}
		told := slices.Clone(image)
		told[0] = checkpointOf(1, 1, 5, 1, byte(len(c.sectors)))
		if e := held(t, told); (e == api.OK) != c.ok || e != api.OK && e != api.ErrForm {
			t.Errorf("%d, told: the model tells %d", i, e)
		}
		found := slices.Clone(image)
		found[0] = checkpointOf(1, 1, 4, 1, 0)
		held(t, found)
		if _, got, e := seglog.Open(diskOf(t, found)); e != api.OK || (len(got) == 1) != c.ok {
			t.Errorf("%d, found: %d records, %d", i, len(got), e)
		}
	}
}

// P5.2: a record is whole however its body is shared out among its parts; what is appended behind it stands right behind.
func TestPartsThatAreNotFull(t *testing.T) {
	for i, pieces := range [][]string{
		{"", ""}, {"ab", "c"}, {"", "x"}, {"x", ""}, {sized(full - 1), "x"}, {sized(full), ""}, {sized(full), sized(full), ""}, {"", sized(full), sized(full)}, make([]string, 16), append(make([]string, 15), "x"),
	} {
		body := strings.Join(pieces, "")
		image := emptyImage(66)
		for j, s := range partsOf(1, 5, pieces...) {
			image[2+16*2+j] = s + strings.Repeat("\xa5", 256-len(s))
		}
		want := records{{Seq: 5, Segment: 2, Body: body}}
		for _, c := range []string{checkpointOf(1, 1, 5, 2, 0), checkpointOf(1, 1, 6, 2, byte(len(pieces)))} {
			image[0] = c
			held(t, image)
			d := diskOf(t, image)
			l, got, e := seglog.Open(d)
			if e != api.OK || !slices.Equal(got, want) || !slices.Equal(l.Segments(), segments{{ID: 2, Used: len(pieces)}}) {
				t.Errorf("%d: records %.60v, segments %v, %d", i, got, l.Segments(), e)
				continue
			}
			if r, e := l.Append(body); e != api.OK || r.Seq != 6 {
				t.Errorf("%d: Append: %d, %d", i, r.Seq, e)
			}
			if _, got, e := seglog.Open(d); e != api.OK || len(got) != 2 || got[0] != want[0] || got[1].Body != body {
				t.Errorf("%d: opened again: %d records, %d", i, len(got), e)
			}
		}
	}
}

// P5.2: a record's numbers, of one that is told, of one that is found.
func TestRecordNumbers(t *testing.T) {
	for _, c := range []struct {
		boot, seq     uint64 // the checkpoint's
		rboot, rseq   uint64 // the record's
		told, counted api.Errno
		found         bool
	}{
		{5, 9, 5, 8, api.OK, api.OK, false}, {5, 9, 4, 0, api.OK, api.OK, false}, {5, 9, 6, 8, api.OK, api.OK, false}, {5, 9, most, 8, api.OK, api.OK, false},
		{5, 9, 5, 9, api.ErrForm, api.OK, true}, {5, 9, 4, 9, api.ErrForm, api.OK, false}, {5, 9, 6, 9, api.ErrForm, api.OK, false}, {5, 9, 5, 10, api.ErrForm, api.OK, false},
		{0, 0, 0, 0, api.ErrForm, api.OK, true}, {5, 9, most + 1, 8, api.ErrForm, api.OK, false}, {5, 9, 1 << 63, 8, api.ErrForm, api.OK, false}, {5, 9, 5, 1<<64 - 1, api.ErrForm, api.OK, false},
		{5, most, 5, most - 1, api.ErrFull, api.ErrFull, false}, {5, most, 5, most, api.ErrForm, api.ErrFull, false}, {5, most - 1, 5, most - 1, api.ErrForm, api.ErrFull, false}, {5, most - 2, 5, most - 2, api.ErrForm, api.OK, true},
	} {
		image := emptyImage(66)
		image[2] = filled(recordOf(c.rboot, c.rseq, "a")[0])
		image[1] = checkpointOf(7, c.boot, c.seq, 0, 1)
		if e := held(t, image); e != c.told {
			t.Errorf("%v: the model tells %d", c, e)
		}
		image[1] = checkpointOf(7, c.boot, c.seq, 0, 0)
		if e := held(t, image); e != c.counted {
			t.Errorf("%v: the model tells %d", c, e)
		}
		if _, got, e := seglog.Open(diskOf(t, image)); (len(got) == 1) != c.found || e != c.counted {
			t.Errorf("%v: %d records, %d", c, len(got), e)
		}
	}
}

// P5.2: records that rise or don't, within a segment and from one to the next; and what is found only in the last one.
func TestOrder(t *testing.T) {
	for _, c := range []struct {
		seqs [2][]uint64 // in segments 2 and 0, that is their order
		used [2]byte
		want api.Errno
		n    int
	}{
		{[2][]uint64{{0, 1}, {2, 3}}, [2]byte{2, 2}, api.OK, 4}, {[2][]uint64{{0, 4}, {6, 9}}, [2]byte{2, 2}, api.OK, 4}, {[2][]uint64{{}, {6, 9}}, [2]byte{0, 2}, api.OK, 2}, {[2][]uint64{{3}, {}}, [2]byte{1, 0}, api.OK, 1},
		{[2][]uint64{{1, 0}, {2, 3}}, [2]byte{2, 2}, api.ErrForm, 0}, {[2][]uint64{{1, 1}, {2, 3}}, [2]byte{2, 2}, api.ErrForm, 0}, {[2][]uint64{{0, 2}, {2, 3}}, [2]byte{2, 2}, api.ErrForm, 0}, {[2][]uint64{{4, 5}, {2, 3}}, [2]byte{2, 2}, api.ErrForm, 0},
		{[2][]uint64{{4, 10}, {}}, [2]byte{2, 0}, api.ErrForm, 0}, {[2][]uint64{{4}, {5}}, [2]byte{2, 1}, api.ErrForm, 0}, {[2][]uint64{{4}, {5}}, [2]byte{1, 2}, api.ErrForm, 0},
		{[2][]uint64{{4, 10}, {5}}, [2]byte{1, 1}, api.OK, 2}, {[2][]uint64{{4}, {5, 10, 11, 13}}, [2]byte{1, 1}, api.OK, 4}, {[2][]uint64{{4}, {10, 11, 12}}, [2]byte{1, 0}, api.OK, 4}, {[2][]uint64{{4}, {11, 10}}, [2]byte{1, 0}, api.OK, 1},
	} {
		image := emptyImage(66)
		for i, seqs := range c.seqs {
			for j, seq := range seqs {
				image[2+16*(2-2*i)+j] = filled(recordOf(1, seq, "a")[0])
			}
		}
		image[0] = checkpointOf(1, 1, 10, 2, c.used[0], 0, c.used[1])
		if e := held(t, image); e != c.want {
			t.Errorf("%v: the model tells %d", c, e)
		}
		if _, got, e := seglog.Open(diskOf(t, image)); len(got) != c.n || e != c.want {
			t.Errorf("%v: %d records, %d", c, len(got), e)
		}
	}
}

// P5.2: a record doesn't reach beyond what is told, nor beyond its segment.
func TestRecordEnds(t *testing.T) {
	image := emptyImage(66)
	for i, s := range recordOf(1, 0, sized(5*full)) {
		image[2+12+i] = filled(s) // four sectors of segment 0, one of segment 1
	}
	for i := range 12 {
		image[2+i] = filled(recordOf(1, 0, "")[0])
	}
	image[0] = checkpointOf(1, 1, 0, 0, 0)
	held(t, image)
	if _, got, e := seglog.Open(diskOf(t, image)); len(got) != 1 || e != api.OK {
		t.Errorf("%d records, %d", len(got), e)
	}
	image = emptyImage(66)
	for i, s := range recordOf(1, 3, sized(4*full)) {
		image[2+i] = filled(s)
	}
	for used := range byte(6) {
		image[0] = checkpointOf(1, 1, 4, 0, used)
		want := api.ErrForm
		if used == 0 || used == 4 {
			want = api.OK
		}
		if e := held(t, image); e != want {
			t.Errorf("%d sectors of four are told: %d", used, e)
		}
	}
}

// P5.2, P5.3: the numbers' end.
func TestSpentNumbers(t *testing.T) {
	last := func(serial, boot, seq uint64) (*seglog.Log, *model) {
		t.Helper()
		image := emptyImage(66)
		image[0] = checkpointOf(serial, boot, seq, 1, 0, 0, 0)
		return reopened(t, diskOf(t, image))
	}
	spent := func(l *seglog.Log) {
		t.Helper()
		if r, e := l.Append("a"); r != (seglog.Record{}) || e != api.ErrFull {
			t.Errorf("Append at 2^60: %d", e)
		}
		if _, e := l.Append(sized(longer)); e != api.ErrLong {
			t.Errorf("Append of a long body at 2^60: %d", e)
		}
		if e := l.Drop(1); e != api.ErrFull {
			t.Errorf("Drop at 2^60: %d", e)
		}
		if e := l.Drop(l.Segments()[len(l.Segments())-1].ID); e != api.ErrArg {
			t.Errorf("Drop of the last one at 2^60: %d", e)
		}
	}
	l, m := last(1, 1, most-2)
	appends(t, l, m, "a", "b")
	spent(l)
	m.told(t, l)
	l, _ = last(most-1, 1, 1)
	spent(l)
	l, _ = last(1, most-1, 1)
	spent(l)
	l, m = last(most-2, most-2, 1)
	appends(t, l, m, "a", sized(16*full))
	spent(l)
	l, m = last(most-2, 1, 1)
	drops(t, l, m, 1)
	if _, e := l.Append("a"); e != api.ErrFull {
		t.Errorf("Append at 2^60: %d", e)
	}
}

// chancePieces: so many pieces, each of any size that a part can have.
func chancePieces(r *rand.Rand, count int) []string {
	pieces := make([]string, count)
	for i := range pieces {
		pieces[i] = sized([]int{0, r.Intn(full + 1), full}[r.Intn(3)])
	}
	return pieces
}

// chanceImage: a disk with a log on it, most of the time.
func chanceImage(r *rand.Rand) []string {
	image := emptyImage(66 + r.Intn(40))
	for i := range image {
		if r.Intn(3) == 0 {
			image[i] = strings.Repeat("\xa5", 256)
		}
	}
	S := (len(image) - 2) / 16
	boot, seq := uint64(r.Intn(3)), uint64(r.Intn(3))
	if r.Intn(4) == 0 {
		boot, seq = boot+most-20, seq+most-20
	}
	put := func(at int, boot, seq uint64, left int) int {
		texts := recordOf(boot, seq, sized(r.Intn(full*min(left, 1+r.Intn(6))+1)))
		if r.Intn(4) == 0 {
			texts = partsOf(boot, seq, chancePieces(r, len(texts))...)
		}
		for i, s := range texts {
			image[at+i] = s + image[at+i][len(s):]
		}
		return len(texts)
	}
	var list []byte
	ids := r.Perm(S)[:1+r.Intn(S)]
	for _, id := range ids {
		used := 0
		for used < 16 && r.Intn(4) > 0 {
			seq += uint64(r.Intn(2))
			used += put(2+16*id+used, uint64(r.Intn(3)), seq, 16-used)
			seq++
		}
		list = append(list, byte(id), byte(used))
	}
	home, serial := r.Intn(2), uint64(1+r.Intn(300))
	image[home] = checkpointOf(serial, boot, seq, list...)
	image[1-home] = checkpointOf(serial-uint64(r.Intn(2)), boot, seq, list...)
	for at, used := 2+16*ids[len(ids)-1], int(list[len(list)-1]); used < 16 && r.Intn(4) > 0; seq++ {
		used += put(at+used, boot, seq, 16-used)
	}
	return image
}

// P5.2: disks by chance, whole ones and those with bytes that are spoilt.
func TestSpoilt(t *testing.T) {
	r := rand.New(rand.NewSource(52))
	seen := map[api.Errno]int{}
	for range 4000 {
		image := chanceImage(r)
		for range r.Intn(4) {
			at := r.Intn(len(image))
			for image[at][0] != 'R' && image[at][0] != 'C' {
				at = r.Intn(len(image))
			}
			b := []byte(image[at])
			b[r.Intn(28)] += byte(r.Intn(3)) - 1
			image[at] = string(b)
		}
		seen[held(t, image)]++
		if t.Failed() {
			return
		}
	}
	if seen[api.OK] < 500 || seen[api.ErrForm] < 500 || seen[api.ErrFull] < 20 {
		t.Errorf("too few of a kind: %v", seen)
	}
}
