package seglog

import (
	"coracle/api"
	"coracle/sector"
)

// Open: the log that lies on a disk, and its records.
func Open(d *sector.Disk) (*Log, []Record, api.Errno) {
	if e := usable(d); e != api.OK {
		return nil, nil, e
	}
	l, ok := newest(d)
	if !ok {
		return nil, nil, api.ErrForm
	}
	records, ok := l.told()
	if !ok {
		return nil, nil, api.ErrForm
	}
	records = append(records, l.goOn()...)
	if l.spent() {
		return nil, nil, api.ErrFull
	}
	next := l.checkpoint
	next.boot++ // so that nothing of a record that wasn't whole now can be taken for one that is appended later
	if e := l.save(next); e != api.OK {
		return nil, nil, e
	}
	return l, records, api.OK
}

// read: a sector's bytes. There is an error only where the power is off, and it goes off in a Write or a Flush alone.
func read(d *sector.Disk, n int) string {
	text, _ := d.Read(n)
	return text
}

// newest: a log with the checkpoint that counts; is there one?
func newest(d *sector.Disk) (*Log, bool) {
	var found *Log
	for home := range checkpoints {
		c, ok := takeCheckpoint(read(d, home), segmentsOf(d))
		if ok && (found == nil || c.serial > found.serial) {
			found = &Log{checkpoint: c, disk: d, home: home}
		}
	}
	return found, found != nil
}

// sectors: those of a segment.
func (l *Log) sectors(id int) []string {
	var texts []string
	for i := range api.SegSize {
		texts = append(texts, read(l.disk, sectorOf(id)+i))
	}
	return texts
}

// told: the records in the sectors that the checkpoint tells as used; are they all as it tells?
func (l *Log) told() ([]Record, bool) {
	var records []Record
	least := 0
	for _, s := range l.segments {
		rest := l.sectors(s.ID)[:s.Used]
		for len(rest) > 0 {
			m, body, ok := takeRecord(rest)
			if !ok || m.seq < least || m.seq >= l.seq {
				return nil, false
			}
			records = append(records, Record{Seq: m.seq, Segment: s.ID, Body: body})
			least, rest = m.seq+1, rest[m.parts:]
		}
	}
	return records, true
}

// goOn: the records behind those that the checkpoint tells; they count from now on.
func (l *Log) goOn() []Record {
	var records []Record
	last := &l.segments[len(l.segments)-1]
	sectors := l.sectors(last.ID)
	for {
		m, body, ok := takeRecord(sectors[last.Used:])
		if !ok || m.boot != l.boot || m.seq != l.seq {
			return records
		}
		records = append(records, Record{Seq: m.seq, Segment: last.ID, Body: body})
		l.seq++
		last.Used += m.parts
	}
}
