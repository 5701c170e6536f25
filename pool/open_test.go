package pool_test

import (
	"slices"
	"testing"

	"polder/api"
	"polder/pool"
	"polder/store"
)

// holding is a disk with a store whose first pages are these; those of no kind were never written.
func holding(t *testing.T, pages int, first []api.Page) *bench {
	t.Helper()
	b := blank(t, pages)
	b.is("Format", store.Format(b.d, pages, place(pages), api.MinLog), api.OK)
	s := b.store()
	b.is("Begin", s.Begin(), api.OK)
	for n, x := range first {
		if x.Kind != api.KindNone {
			b.is("Write", s.Write(n, x), api.OK)
		}
	}
	b.is("Commit", s.Commit(), api.OK)
	b.is("Sync", s.Sync(), api.OK)
	return b
}

// TestOpenNone: of no store.
func TestOpenNone(t *testing.T) {
	b := small(t)
	b.refuses(nil, api.ErrArg)
}

// TestOpenTakes: page 0 may have any body, and pages any count, but the first ones.
func TestOpenTakes(t *testing.T) {
	for _, pages := range sizes() {
		first := firstPages(pages)
		first[0] = api.Page{Kind: api.KindCatalogue, Body: slices.Repeat([]byte{255}, api.BodySize)}
		want := newState(pages)
		want.pages[0] = first[0]
		set := func(n, count int) {
			x := first[1+n/120]
			x.Body[n%120*2], x.Body[n%120*2+1] = byte(count>>8), byte(count)
			want.counts[n] = count
			want.free--
		}
		set(pages-1, 1000)
		set(pages-2, 1)
		set(many(pages)+1, 257)
		if pages > 121 {
			set(119, 2)
			set(120, 3)
		}
		copy(want.pages, first)
		b := holding(t, pages, first)
		b.opens()
		b.stays(want)
		b.begins()
		b.fresh(1, many(pages)+2)
		b.aborts()
		b.stays(want)
	}
}

// TestOpenKinds: each of the first pages has to be of its kind.
func TestOpenKinds(t *testing.T) {
	for _, pages := range sizes() {
		for n := range many(pages) + 1 {
			for kind := api.KindNone; kind <= api.KindData; kind++ {
				first := firstPages(pages)
				if first[n].Kind == kind {
					continue
				}
				first[n].Kind = kind
				b := holding(t, pages, first)
				b.refuses(b.store(), api.ErrImage)
			}
		}
		b := holding(t, pages, nil)
		b.refuses(b.store(), api.ErrImage)
	}
}

// TestOpenCounts: pages of counts have to tell counts, those of the first pages 1, and none of no page.
func TestOpenCounts(t *testing.T) {
	for _, pages := range sizes() {
		r := many(pages)
		bad := func(n, count int) {
			t.Helper()
			first := firstPages(pages)
			x := first[1+n/120]
			x.Body[n%120*2], x.Body[n%120*2+1] = byte(count>>8), byte(count)
			b := holding(t, pages, first)
			b.refuses(b.store(), api.ErrImage)
		}
		for _, count := range []int{1001, 65535, 1 << 10, 1 << 15} {
			for _, n := range []int{0, r, r + 1, pages - 1} {
				bad(n, count)
			}
		}
		for _, count := range []int{0, 2, 256, 1000} {
			for n := range r + 1 {
				bad(n, count)
			}
		}
		for n := pages; n < 120*r; n++ {
			if n < pages+2 || n > 120*r-2 {
				bad(n, 1)
				bad(n, 1000)
			}
		}
	}
}

// TestOpenReads: the catalogue and the counts are read, each once, and nothing else is asked of the disk; what can't be read is the answer, whatever the others are.
func TestOpenReads(t *testing.T) {
	for _, pages := range sizes() {
		for _, first := range [][]api.Page{firstPages(pages), nil} {
			b := holding(t, pages, first)
			s := b.store()
			b.quiet("Open", func() {
				for n := range many(pages) + 1 {
					b.is("Fail", b.d.Fail(api.FailRead, n+1), api.OK)
					b.refuses(s, api.ErrRead)
				}
				b.is("Fail", b.d.Fail(api.FailRead, many(pages)+2), api.OK)
				p, e := pool.Open(s)
				if first == nil {
					b.is("Open", e, api.ErrImage)
				} else if p == nil || e != api.OK {
					t.Errorf("%d pages: Open = %v, %v", pages, p, e)
				}
			})
			if _, e := b.d.Read(0, 1); e != api.ErrRead {
				t.Errorf("%d pages: Open read more than the first pages", pages)
			}
		}
	}
}

// TestOpenSum: a page that is not what was written is told as such, ahead of any that is of another kind; of several that can't be read the first one is.
func TestOpenSum(t *testing.T) {
	spoil := func(b *bench, n int) {
		b.Helper()
		b.is("Write", b.d.Write(2+n, slices.Repeat([]byte{1}, api.SectorSize), false), api.OK)
	}
	for _, pages := range sizes() {
		r := many(pages)
		for n := range r + 1 {
			for _, first := range [][]api.Page{firstPages(pages), nil} {
				b := holding(t, pages, first)
				s := b.store()
				spoil(b, n)
				b.refuses(s, api.ErrSum)
			}
		}
		for n := range r {
			b := holding(t, pages, nil)
			s := b.store()
			spoil(b, n)
			b.is("Fail", b.d.Fail(api.FailRead, n+2), api.OK)
			b.refuses(s, api.ErrSum)
			b.is("Fail", b.d.Fail(api.FailRead, n+1), api.OK)
			spoil(b, n+1)
			b.refuses(s, api.ErrRead)
		}
		b := holding(t, pages, firstPages(pages))
		s := b.store()
		spoil(b, r+1)
		spoil(b, pages-1)
		if p, e := pool.Open(s); p == nil || e != api.OK {
			t.Errorf("%d pages: Open = %v, %v", pages, p, e)
		}
	}
}

// TestOpenDirty: what is committed, and not home, is read as the store has it.
func TestOpenDirty(t *testing.T) {
	b := laid(t, 121)
	b.has(from(3, 118)...)
	was := b.state()
	p, e := pool.Open(b.p.Store())
	b.is("Open", e, api.OK)
	b.p = p
	b.stays(was)
	b.begins()
	b.noFresh(page(1), api.ErrSpace)
	b.unrefs(120, api.OK)
	b.commits()
	b.begins()
	b.fresh(1, 120)
	b.commits()
}

// TestOpenUnder: in a pool that is opened no transaction is under way, whatever is at the store; that one is as it was.
func TestOpenUnder(t *testing.T) {
	b := small(t)
	b.has(2)
	s := b.p.Store()
	b.is("Begin", s.Begin(), api.OK)
	p, e := pool.Open(s)
	b.is("Open", e, api.OK)
	b.p = p
	b.under(false)
	b.writes(2, 1, api.ErrIdle)
	b.refs(2, api.ErrIdle)
	b.noFresh(page(1), api.ErrIdle)
	b.is("Commit", p.Commit(), api.ErrIdle)
	b.is("Begin", p.Begin(), api.ErrBusy)
	b.under(false)
	b.is("Write at the store", s.Write(2, page(9)), api.OK)
	b.is("Commit at the store", s.Commit(), api.OK)
	b.begins()
	b.reads(2, page(9))
	b.fresh(1, 3)
	b.commits()
}
