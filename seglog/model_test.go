package seglog_test

import (
	"encoding/binary"
	"slices"
	"strings"
	"testing"

	"coracle/api"
	"coracle/sector"
	"coracle/seglog"
)

const (
	most   = 1 << 60    // of a number
	full   = 233        // bytes of a full part
	longer = 16*233 + 1 // bytes of the shortest body that is too long
)

type (
	records  = []seglog.Record
	segments = []seglog.Segment
)

func filled(s string) string { return s + strings.Repeat("\x00", 256-len(s)) }

func wide(b []byte, numbers ...uint64) []byte {
	for _, n := range numbers {
		b = binary.BigEndian.AppendUint64(b, n)
	}
	return b
}

// checkpointOf: a checkpoint's sector; list tells the segments, a number and its used sectors each.
func checkpointOf(serial, boot, seq uint64, list ...byte) string {
	b := wide([]byte("C"), serial, boot, seq)
	return filled(string(append(append(b, byte(len(list)/2)), list...)))
}

// partOf: a part's sector, without what is behind.
func partOf(boot, seq uint64, place, parts, size int, bytes string) string {
	b := wide([]byte("R"), boot, seq)
	for _, n := range []int{place, parts, size} {
		b = binary.BigEndian.AppendUint16(b, uint16(n))
	}
	return string(b) + bytes
}

// recordOf: the sectors of a record, without what is behind.
func recordOf(boot, seq uint64, body string) []string {
	pieces := []string{body}
	for len(pieces[len(pieces)-1]) > full {
		last := pieces[len(pieces)-1]
		pieces = append(pieces[:len(pieces)-1], last[:full], last[full:])
	}
	return partsOf(boot, seq, pieces...)
}

// partsOf: the sectors of a record whose parts hold these pieces, full or not, without what is behind.
func partsOf(boot, seq uint64, pieces ...string) []string {
	var texts []string
	for i, p := range pieces {
		texts = append(texts, partOf(boot, seq, i, len(pieces), len(p), p))
	}
	return texts
}

// model is a log as the chapter tells it, with the disk that it should lie on.
type model struct {
	image             []string
	home              int
	serial, boot, seq uint64
	segments          segments
	records           records
}

func (m *model) clone() *model {
	c := *m
	c.image, c.segments, c.records = slices.Clone(m.image), slices.Clone(m.segments), slices.Clone(m.records)
	return &c
}

// rightCheckpoint: reads a checkpoint into the model, if it is right; S is how many segments there are.
func (m *model) rightCheckpoint(home, S int) bool {
	text := m.image[home]
	b := []byte(text)
	serial, boot, seq := binary.BigEndian.Uint64(b[1:]), binary.BigEndian.Uint64(b[9:]), binary.BigEndian.Uint64(b[17:])
	count := int(b[25])
	if count < 1 || count > S || max(serial, boot, seq) > most || text != checkpointOf(serial, boot, seq, b[26:26+2*count]...) {
		return false
	}
	var list segments
	seen := map[byte]int{}
	for i := 26; i < 26+2*count; i += 2 {
		seen[b[i]]++
		if seen[b[i]] > 1 || int(b[i]) >= S || b[i+1] > 16 {
			return false
		}
		list = append(list, seglog.Segment{ID: int(b[i]), Used: int(b[i+1])})
	}
	m.home, m.serial, m.boot, m.seq, m.segments = home, serial, boot, seq, list
	return true
}

// wholeAt: the boot, the sequence number and the body of the record in the first of these sectors, and how many it takes; 0, where there is none whole. It is one, where the parts of its pieces are what stands there.
func wholeAt(sectors []string) (boot, seq uint64, body string, parts int) {
	if len(sectors) == 0 {
		return
	}
	head := []byte(sectors[0][:23])
	boot, seq = binary.BigEndian.Uint64(head[1:]), binary.BigEndian.Uint64(head[9:])
	parts = int(binary.BigEndian.Uint16(head[19:]))
	if max(boot, seq) > most || parts > min(16, len(sectors)) {
		return 0, 0, "", 0
	}
	var pieces []string
	for _, s := range sectors[:parts] {
		size := int(binary.BigEndian.Uint16([]byte(s[21:23])))
		if size > full {
			return 0, 0, "", 0
		}
		pieces = append(pieces, s[23:23+size])
	}
	for i, s := range partsOf(boot, seq, pieces...) {
		if !strings.HasPrefix(sectors[i], s) {
			return 0, 0, "", 0
		}
	}
	return boot, seq, strings.Join(pieces, ""), parts
}

// look: the log that lies on such a disk, just ahead of Open's own checkpoint.
func look(image []string) (*model, api.Errno) {
	S := (len(image) - 2) / 16
	zero, one := model{image: slices.Clone(image)}, model{image: slices.Clone(image)}
	right0, right1 := zero.rightCheckpoint(0, S), one.rightCheckpoint(1, S)
	m := &zero
	if !right0 && !right1 {
		return nil, api.ErrForm
	} else if !right0 || right1 && one.serial > zero.serial {
		m = &one
	}
	for _, s := range m.segments {
		at := m.at(s.ID)
		for i := 0; i < s.Used; {
			_, seq, body, n := wholeAt(m.image[at+i : at+s.Used])
			risen := len(m.records) == 0 || m.records[len(m.records)-1].Seq < int(seq)
			if n == 0 || !risen || seq >= m.seq {
				return nil, api.ErrForm
			}
			m.records = append(m.records, seglog.Record{Seq: int(seq), Segment: s.ID, Body: body})
			i += n
		}
	}
	last := &m.segments[len(m.segments)-1]
	for at := m.at(last.ID); ; {
		boot, seq, body, n := wholeAt(m.image[at+last.Used : at+16])
		if n == 0 || boot != m.boot || seq != m.seq {
			break
		}
		m.records = append(m.records, seglog.Record{Seq: int(seq), Segment: last.ID, Body: body})
		last.Used += n
		m.seq++
	}
	if max(m.serial, m.boot, m.seq) >= most {
		return nil, api.ErrFull
	}
	return m, api.OK
}

func (m *model) at(id int) int { return 2 + 16*id }

func (m *model) total() int { return (len(m.image) - 2) / 16 }

// save: a new checkpoint.
func (m *model) save() {
	m.serial++
	m.home = 1 - m.home
	var list []byte
	for _, s := range m.segments {
		list = append(list, byte(s.ID), byte(s.Used))
	}
	m.image[m.home] = checkpointOf(m.serial, m.boot, m.seq, list...)
}

func (m *model) open() {
	m.boot++
	m.save()
}

func (m *model) left() int { return 16 - m.segments[len(m.segments)-1].Used }

// extend: the least free segment becomes the last one; is there one?
func (m *model) extend() bool {
	for id := range m.total() {
		if !slices.ContainsFunc(m.segments, func(s seglog.Segment) bool { return s.ID == id }) {
			m.segments = append(m.segments, seglog.Segment{ID: id})
			m.save()
			return true
		}
	}
	return false
}

func (m *model) append(body string) (seglog.Record, api.Errno) {
	texts := recordOf(m.boot, m.seq, body)
	if len(texts) > 16 {
		return seglog.Record{}, api.ErrLong
	}
	if len(texts) > m.left() && !m.extend() {
		return seglog.Record{}, api.ErrFull
	}
	last := &m.segments[len(m.segments)-1]
	for _, s := range texts {
		m.image[m.at(last.ID)+last.Used] = filled(s)
		last.Used++
	}
	r := seglog.Record{Seq: int(m.seq), Segment: last.ID, Body: body}
	m.seq++
	m.records = append(m.records, r)
	return r, api.OK
}

func (m *model) drop(id int) api.Errno {
	i := slices.IndexFunc(m.segments, func(s seglog.Segment) bool { return s.ID == id })
	if i < 0 || i == len(m.segments)-1 {
		return api.ErrArg
	}
	m.segments = append(m.segments[:i:i], m.segments[i+1:]...)
	m.records = slices.DeleteFunc(m.records, func(r seglog.Record) bool { return r.Segment == id })
	m.save()
	return api.OK
}

// told: a log tells what the model does.
func (m *model) told(t *testing.T, l *seglog.Log) {
	t.Helper()
	if got := l.Segments(); !slices.Equal(got, m.segments) {
		t.Errorf("Segments %v, not %v", got, m.segments)
	}
	if got, want := l.Free(), m.total()-len(m.segments); got != want {
		t.Errorf("Free %d, not %d", got, want)
	}
	if l.Boot() != int(m.boot) {
		t.Errorf("Boot %d, not %d", l.Boot(), m.boot)
	}
	for _, n := range []int{0, full * m.left(), full*m.left() + 1, 1, full * 16, longer} {
		want := n <= full*m.left() && m.left() > 0
		if l.Fits(n) != want {
			t.Errorf("Fits(%d) is %v with %d left", n, !want, m.left())
		}
	}
}

// lies: the disk holds what the model does.
func (m *model) lies(t *testing.T, d *sector.Disk) {
	t.Helper()
	for i, s := range imageOf(t, d) {
		if s != m.image[i] {
			t.Errorf("sector %d: %.60q, not %.60q", i, s, m.image[i])
		}
	}
}

func blank(t *testing.T, sectors int) *sector.Disk {
	t.Helper()
	d, e := sector.New(sectors)
	if e != api.OK {
		t.Fatalf("New(%d): %d", sectors, e)
	}
	return d
}

// diskOf: a disk that holds these sectors.
func diskOf(t *testing.T, image []string) *sector.Disk {
	t.Helper()
	d := blank(t, len(image))
	for i, s := range image {
		if e := d.Write(i, s); e != api.OK {
			t.Fatalf("Write(%d): %d", i, e)
		}
	}
	if e := d.Flush(); e != api.OK {
		t.Fatalf("Flush: %d", e)
	}
	return d
}

func imageOf(t *testing.T, d *sector.Disk) []string {
	t.Helper()
	image := make([]string, d.Size())
	for i := range image {
		s, e := d.Read(i)
		if e != api.OK {
			t.Fatalf("Read(%d): %d", i, e)
		}
		image[i] = s
	}
	return image
}

// opened: a new log on a disk of so many sectors, with its model.
func opened(t *testing.T, sectors int) (*sector.Disk, *seglog.Log, *model) {
	t.Helper()
	d := blank(t, sectors)
	if e := seglog.Format(d); e != api.OK {
		t.Fatalf("Format: %d", e)
	}
	l, m := reopened(t, d)
	return d, l, m
}

// reopened: the log that lies on a disk, held against the model of what lies there.
func reopened(t *testing.T, d *sector.Disk) (*seglog.Log, *model) {
	t.Helper()
	m, e := look(imageOf(t, d))
	if e != api.OK {
		t.Fatalf("no log lies there: %d", e)
	}
	m.open()
	l, got, e := seglog.Open(d)
	if e != api.OK || l == nil || !slices.Equal(got, m.records) {
		t.Fatalf("Open: %d, %d records, not %d", e, len(got), len(m.records))
	}
	m.told(t, l)
	m.lies(t, d)
	return l, m
}

// appends: these bodies, by the log and by the model.
func appends(t *testing.T, l *seglog.Log, m *model, bodies ...string) {
	t.Helper()
	for _, body := range bodies {
		want, wantE := m.append(body)
		if got, e := l.Append(body); got != want || e != wantE {
			t.Errorf("Append of %d bytes: %d in %d, %d, not %d in %d, %d", len(body), got.Seq, got.Segment, e, want.Seq, want.Segment, wantE)
		}
	}
	m.told(t, l)
}

// drops: these segments, by the log and by the model.
func drops(t *testing.T, l *seglog.Log, m *model, ids ...int) {
	t.Helper()
	for _, id := range ids {
		want := m.drop(id)
		if e := l.Drop(id); e != want {
			t.Errorf("Drop(%d): %d, not %d", id, e, want)
		}
	}
	m.told(t, l)
}

func sized(n int) string { return strings.Repeat("abcdefg", n/7+1)[:n] }
