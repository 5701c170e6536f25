package pool

import "polder/api"

// Begin begins a transaction.
func (p *Pool) Begin() api.Errno {
	if e := p.kept.Begin(); e != api.OK {
		return e
	}
	// What a transaction left that was ended at the store itself, past the pool, is none of this one's.
	p.undo()
	p.under = true
	return api.OK
}

// Commit ends it: all of it is done, or nothing.
func (p *Pool) Commit() api.Errno {
	if !p.under {
		return api.ErrIdle
	}
	if e := p.commit(); e != api.OK {
		p.Abort()
		return e
	}
	p.under = false
	p.counts.Settle()
	p.free.Settle()
	return api.OK
}

// commit writes the counts that were changed, and has the store commit all.
func (p *Pool) commit() api.Errno {
	for _, i := range p.counts.Touched() {
		if e := p.kept.Write(1+i, countsPage(p.counts, i)); e != api.OK {
			return e
		}
	}
	return p.kept.Commit()
}

// Abort ends it: nothing is done.
func (p *Pool) Abort() {
	p.kept.Abort()
	p.under = false
	p.undo()
}

// undo takes back what was done to counts and free pages since the last transaction that was done.
func (p *Pool) undo() {
	p.counts.Undo()
	p.free.Undo()
}

// Write changes a page that is in use.
func (p *Pool) Write(n int, x api.Page) api.Errno {
	if !p.under {
		return api.ErrIdle
	}
	// The catalogue may be written, but the counts go by their own calls alone.
	if n > 0 && p.isFixed(n) || !p.isUsed(n) {
		return api.ErrRange
	}
	return p.kept.Write(n, x)
}

// isUsed tells whether a page is in use.
func (p *Pool) isUsed(n int) bool { return p.Count(n) > 0 }

// isFixed tells whether a page is one of the first ones, whose counts stay.
func (p *Pool) isFixed(n int) bool { return n < fixed(p.Pages()) }

// Fresh takes a free page, with a count of one.
func (p *Pool) Fresh(x api.Page) (int, api.Errno) {
	if !p.under {
		return 0, api.ErrIdle
	}
	n, ok := p.free.Take()
	if !ok {
		return 0, api.ErrSpace
	}
	if e := p.kept.Write(n, x); e != api.OK {
		p.free.Drop(n)
		return 0, e
	}
	return n, p.counts.Add(n, 1) // from 0, so that it is not refused
}

// Ref refers to a page once more.
func (p *Pool) Ref(n int) api.Errno { return p.refer(n, 1) }

// Unref refers to it once less; with the last reference it is given back.
func (p *Pool) Unref(n int) api.Errno {
	if e := p.refer(n, -1); e != api.OK {
		return e
	}
	if !p.isUsed(n) {
		p.free.Drop(n)
	}
	return api.OK
}

// refer changes the count of a page that may be given back.
func (p *Pool) refer(n, by int) api.Errno {
	if !p.under {
		return api.ErrIdle
	}
	if p.isFixed(n) || !p.isUsed(n) {
		return api.ErrRange
	}
	return p.counts.Add(n, by)
}
