package pool

import (
	"polder/api"
	"polder/codec"
	"polder/counts"
	"polder/disk"
	"polder/store"
)

// firstID is the ID of the first volume that will be made.
const firstID = 1

// Format makes a disk a pool with an empty catalogue.
func Format(d *disk.Disk, pages, start, length int) api.Errno {
	if e := store.Format(d, pages, start, length); e != api.OK {
		return e
	}
	s, e := store.Open(d)
	if e != api.OK {
		return e
	}
	first, e := newFirst(pages)
	if e != api.OK {
		return e
	}
	if e := commitFirst(s, first); e != api.OK {
		return e
	}
	return s.Sync()
}

// newFirst is the first pages of a pool in which nothing else is in use.
func newFirst(pages int) ([]api.Page, api.Errno) {
	body, e := codec.PutCatalogue(api.Catalogue{Next: firstID, Volumes: make([]api.Volume, api.MaxVolumes)})
	if e != api.OK {
		return nil, e
	}
	c, e := counts.New(pages)
	if e != api.OK {
		return nil, e
	}
	for n := range fixed(pages) {
		c.Add(n, 1) // from 0, so that it is not refused
	}
	first := []api.Page{{Kind: api.KindCatalogue, Body: body}}
	for i := range counts.Many(pages) {
		first = append(first, countsPage(c, i))
	}
	return first, api.OK
}

// countsPage is a page of counts, as it is written.
func countsPage(c *counts.Counts, i int) api.Page {
	return api.Page{Kind: api.KindCounts, Body: c.Body(i)}
}

// commitFirst writes the first pages, all in one transaction: of a pool that is not whole none may be there.
func commitFirst(s *store.Store, first []api.Page) api.Errno {
	if e := s.Begin(); e != api.OK {
		return e
	}
	for n, x := range first {
		if e := s.Write(n, x); e != api.OK {
			return e
		}
	}
	return s.Commit()
}
