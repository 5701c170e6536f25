package log

import (
	"polder/api"
	"polder/codec"
)

// Images in a log have room for so great an Epoch and Seq; heads and superblocks have room for greater ones.
const (
	mostEpoch = 1<<32 - 1
	mostSeq   = 1<<40 - 1
)

// Append writes a record.
func (l *Log) Append(images []api.Image) api.Errno {
	if len(images) > api.MaxImages {
		return api.ErrTooBig
	}
	if len(images) == 0 || !l.mayBeWritten(images) {
		return api.ErrArg
	}
	if size(len(images)) > l.Room() || l.s.Epoch > mostEpoch || l.seq > mostSeq {
		return api.ErrFull
	}
	record, e := l.record(images)
	if e != api.OK {
		return e
	}
	if e := l.write(record); e != api.OK {
		// Of this record something may be on the disk: were its Seq used again, another one's head could be taken to be its own.
		l.seq++
		l.broken = true
		return e
	}
	l.pass(size(len(images)))
	return api.OK
}

// mayBeWritten tells whether each of some images may, and no two have one number.
func (l *Log) mayBeWritten(images []api.Image) bool {
	var seen [api.MaxPages]bool
	for _, x := range images {
		if _, e := codec.PutPage(l.t, x); e != api.OK || seen[x.Number] {
			return false
		}
		seen[x.Number] = true
	}
	return true
}

// record is the bytes of the record that is to stand at the tail.
func (l *Log) record(images []api.Image) ([]byte, api.Errno) {
	var numbers []int
	var sectors []byte
	for _, x := range images {
		sector, e := codec.PutImage(l.t, l.s.Epoch, l.seq, x)
		if e != api.OK {
			return nil, e
		}
		numbers = append(numbers, x.Number)
		sectors = append(sectors, sector...)
	}
	head, e := codec.PutHead(l.t, api.Head{Epoch: l.s.Epoch, Seq: l.seq, Pages: numbers, Sum: l.t.Sum(sectors)})
	if e != api.OK {
		return nil, e
	}
	return append(head, sectors...), api.OK
}

// write writes a record's bytes at the tail. Those that don't fit ahead of the ring's end go to its beginning.
func (l *Log) write(record []byte) api.Errno {
	ahead := min(len(record), (l.s.Len-l.tail)*api.SectorSize)
	if e := l.d.Write(l.s.Start+l.tail, record[:ahead], false); e != api.OK {
		return e
	}
	if ahead == len(record) {
		return api.OK
	}
	return l.d.Write(l.s.Start, record[ahead:], false)
}
