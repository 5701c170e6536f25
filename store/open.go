package store

import (
	"polder/api"
	"polder/crc"
	"polder/disk"
	"polder/log"
	"polder/super"
)

// Format makes a disk a store whose pages were never written.
func Format(d *disk.Disk, pages, start, length int) api.Errno {
	s := api.Super{Gen: 1, Epoch: 1, Pages: pages, Start: start, Len: length, Seq: 1}
	if d == nil || super.Check(s, d.Size()) != api.OK {
		return api.ErrArg
	}
	for p := range pages {
		if e := d.Write(home(p), make([]byte, api.SectorSize), false); e != api.OK {
			return e
		}
	}
	if e := d.Flush(); e != api.OK {
		return e
	}
	return saveBoth(d, s)
}

// saveBoth saves a superblock and its next one, so that one of them may be spoilt from the beginning on.
func saveBoth(d *disk.Disk, s api.Super) api.Errno {
	t := crc.New()
	if e := super.Save(d, t, s); e != api.OK {
		return e
	}
	s.Gen++
	return super.Save(d, t, s)
}

// Open is the store on a disk, behind whatever happened to it.
func Open(d *disk.Disk) (*Store, api.Errno) {
	s, e := load(d)
	if e != api.OK {
		return nil, e
	}
	// The log's records are read once more, should the power go ahead of the superblock: till then nothing in the log is written over.
	if e := s.bringHome(); e != api.OK {
		return nil, e
	}
	if e := s.restart(restarted(s.super)); e != api.OK {
		return nil, e
	}
	clear(s.dirty)
	return s, api.OK
}

// load is what a disk's superblock and its log's records tell: a store without a log of its own, whose pages in the records are dirty. (A nil disk is refused by super.Load.)
func load(d *disk.Disk) (*Store, api.Errno) {
	t := crc.New()
	x, e := super.Load(d, t)
	if e != api.OK {
		return nil, e
	}
	_, records, e := log.Open(d, t, x)
	if e != api.OK {
		return nil, e
	}
	if x.Gen == api.MaxNumber || x.Epoch == api.MaxNumber {
		return nil, api.ErrFull
	}
	return &Store{d: d, t: t, super: x, dirty: latest(records)}, api.OK
}

// latest is the pages that records have, each as the last one has it.
func latest(records []api.Record) map[int]api.Page {
	pages := map[int]api.Page{}
	for _, r := range records {
		for _, x := range r.Images {
			pages[x.Number] = x.Page
		}
	}
	return pages
}
