package store

import (
	"bytes"
	"maps"

	"polder/api"
	"polder/codec"
)

// Begin begins a transaction.
func (s *Store) Begin() api.Errno {
	if s.underWay() {
		return api.ErrBusy
	}
	s.written = map[int]api.Page{}
	return api.OK
}

// underWay tells whether a transaction is.
func (s *Store) underWay() bool { return s.written != nil }

// has tells whether there is such a page.
func (s *Store) has(p int) bool { return p >= 0 && p < s.super.Pages }

// Read is a page, as the transaction under way has it.
func (s *Store) Read(p int) (api.Page, api.Errno) {
	if !s.has(p) {
		return api.Page{}, api.ErrRange
	}
	for _, pages := range [...]map[int]api.Page{s.written, s.dirty} {
		if x, ok := pages[p]; ok {
			return copied(x), api.OK
		}
	}
	return s.readHome(p)
}

// readHome is the page that is at home.
func (s *Store) readHome(p int) (api.Page, api.Errno) {
	sector, e := s.d.Read(home(p), 1)
	if e != api.OK {
		return api.Page{}, e
	}
	x, ok := codec.GetPage(s.t, sector, p)
	if !ok {
		return api.Page{}, api.ErrSum
	}
	return x, api.OK
}

// copied is a page with memory of its own.
func copied(x api.Page) api.Page {
	x.Body = bytes.Clone(x.Body)
	return x
}

// Write changes a page in the transaction.
func (s *Store) Write(p int, x api.Page) api.Errno {
	if !s.underWay() {
		return api.ErrIdle
	}
	if !s.has(p) {
		return api.ErrRange
	}
	if _, e := codec.PutPage(s.t, api.Image{Number: p, Page: x}); e != api.OK {
		return e
	}
	if _, ok := s.written[p]; !ok && len(s.written) == api.MaxImages {
		return api.ErrTooBig
	}
	s.written[p] = copied(x)
	return api.OK
}

// Commit ends the transaction: all of it is done, or nothing.
func (s *Store) Commit() api.Errno {
	if !s.underWay() {
		return api.ErrIdle
	}
	// Done or refused, it is over; it has to be under way till then, as it is what is appended.
	defer s.Abort()
	if len(s.written) == 0 {
		return api.OK
	}
	if e := s.appendWritten(); e != api.OK {
		return e
	}
	maps.Copy(s.dirty, s.written)
	return api.OK
}

// Abort ends it: nothing is done.
func (s *Store) Abort() { s.written = nil }

// appendWritten appends what the transaction has written; it makes room in the log, where there is too little.
func (s *Store) appendWritten() api.Errno {
	images := rising(s.written)
	if e := s.log.Append(images); e != api.ErrFull {
		return e
	}
	e := s.checkpoint()
	if e == api.ErrFlush {
		// Of a Commit that would tell that it was done, and is only not known to be durable.
		return api.ErrWrite
	}
	if e != api.OK {
		return e
	}
	return s.log.Append(images)
}
