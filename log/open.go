package log

import (
	"polder/api"
	"polder/codec"
	"polder/crc"
	"polder/disk"
)

// Open reads the records that a superblock tells of.
func Open(d *disk.Disk, t *crc.Table, s api.Super) (*Log, []api.Record, api.Errno) {
	l := New(d, t, s)
	if l == nil {
		return nil, nil, api.ErrArg
	}
	var records []api.Record
	for l.Room() > 0 {
		r, ok, e := l.find()
		if e != api.OK {
			return nil, nil, e
		}
		if !ok {
			break
		}
		records = append(records, r)
		l.pass(size(len(r.Images)))
	}
	return l, records, api.OK
}

// find looks for a record at the tail.
func (l *Log) find() (api.Record, bool, api.Errno) {
	sector, e := l.read(0)
	if e != api.OK {
		return api.Record{}, false, e
	}
	h, ok := codec.GetHead(l.t, sector)
	if !ok || h.Epoch != l.s.Epoch || h.Seq != l.seq || size(len(h.Pages)) > l.Room() {
		return api.Record{}, false, api.OK
	}
	sectors, e := l.readImages(len(h.Pages))
	if e != api.OK {
		return api.Record{}, false, e
	}
	images, ok := l.images(h, sectors)
	if !ok {
		return api.Record{}, false, api.OK
	}
	return api.Record{Seq: h.Seq, Images: images}, true, api.OK
}

// read reads the sector that lies so many behind the tail.
func (l *Log) read(behind int) ([]byte, api.Errno) {
	return l.d.Read(l.s.Start+l.place(behind), 1)
}

// readImages reads the sectors behind a head at the tail, each by itself, as the ring's end may lie anywhere among them.
func (l *Log) readImages(count int) ([]byte, api.Errno) {
	var sectors []byte
	for i := range count {
		sector, e := l.read(size(i))
		if e != api.OK {
			return nil, e
		}
		sectors = append(sectors, sector...)
	}
	return sectors, api.OK
}

// images are those of a head, if these sectors are its images'. The sum alone would not tell: each has to bear the record's own numbers, too, as sectors of other records do not.
func (l *Log) images(h api.Head, sectors []byte) ([]api.Image, bool) {
	if l.t.Sum(sectors) != h.Sum {
		return nil, false
	}
	var images []api.Image
	for i, number := range h.Pages {
		epoch, seq, x, ok := codec.GetImage(l.t, sectors[i*api.SectorSize:(i+1)*api.SectorSize])
		if !ok || epoch != h.Epoch || seq != h.Seq || x.Number != number {
			return nil, false
		}
		images = append(images, x)
	}
	return images, true
}
