package store

import "polder/api"

// Sync makes what was committed durable.
func (s *Store) Sync() api.Errno {
	if s.underWay() {
		return api.ErrBusy
	}
	return s.d.Flush()
}

// Checkpoint brings pages home and empties the log.
func (s *Store) Checkpoint() api.Errno {
	if s.underWay() {
		return api.ErrBusy
	}
	return s.checkpoint()
}

// checkpoint does it whether or not a transaction is under way: a Commit may need it.
func (s *Store) checkpoint() api.Errno {
	if len(s.dirty) == 0 && s.log.Room() > 0 {
		return api.OK
	}
	if s.super.Gen == api.MaxNumber {
		return api.ErrFull
	}
	// Ahead of the first home all records have to be durable: of a transaction whose record is lost no page may be home.
	if e := s.d.Flush(); e != api.OK {
		return e
	}
	if e := s.bringHome(); e != api.OK {
		return e
	}
	next := s.super
	next.Gen++
	next.Head, next.Seq = s.log.Tail()
	if e := s.save(next); e != api.OK {
		return e
	}
	s.log.Drop()
	clear(s.dirty)
	return api.OK
}

// Switch has the log somewhere else.
func (s *Store) Switch(start, length int) api.Errno {
	if s.underWay() || len(s.dirty) > 0 {
		return api.ErrBusy
	}
	next := restarted(s.super)
	next.Start, next.Len = start, length
	return s.restart(next)
}
