package pool_test

import (
	"testing"

	"polder/api"
)

// TestIdle: where no transaction is under way that is told ahead of all else, and nothing changes.
func TestIdle(t *testing.T) {
	b := small(t)
	idle := func() {
		t.Helper()
		was := b.state()
		b.quiet("a call that is refused", func() {
			b.under(false)
			b.is("Commit", b.p.Commit(), api.ErrIdle)
			for _, n := range []int{least, -1, 0, 1, 2, 3, 4, 9, 15, 16, most} {
				b.writes(n, 1, api.ErrIdle)
				b.refs(n, api.ErrIdle)
				b.unrefs(n, api.ErrIdle)
				for _, x := range badPages() {
					b.is("Write", b.p.Write(n, x), api.ErrIdle)
				}
			}
			b.noFresh(page(1), api.ErrIdle)
			for _, x := range badPages() {
				b.noFresh(x, api.ErrIdle)
			}
			b.p.Abort()
			b.under(false)
		})
		b.stays(was)
	}
	idle()
	b.begins()
	b.aborts()
	idle()
	b.begins()
	b.commits()
	idle()
	b.has(2, 3)
	idle()
	b.begins()
	b.fresh(4, 4)
	b.is("Fail", b.d.Fail(api.FailWrite, 1), api.OK)
	b.is("Commit", b.p.Commit(), api.ErrWrite)
	idle()
	b.begins()
	for range 1001 {
		b.p.Ref(3)
	}
	b.commits()
	b.counted(3, 1000)
	idle()
	b.has(from(4, 12)...)
	b.free(0)
	idle()
}

// TestBeginTwice: the second one is refused, and the first one goes on.
func TestBeginTwice(t *testing.T) {
	b := small(t)
	b.has(2)
	b.begins()
	b.fresh(1, 3)
	b.unrefs(2, api.OK)
	for range 2 {
		b.is("Begin", b.p.Begin(), api.ErrBusy)
		b.under(true)
		b.counted(2, 0, 1, 0)
		b.free(12)
		b.reads(3, page(1))
	}
	b.fresh(2, 4)
	b.commits()
	b.counted(2, 0, 1, 1, 0)
	b.begins()
	b.fresh(2, 2)
}

// mixed is a pool of 121 pages within a transaction: 3 was in use, 4 is taken in it; 5 is taken in it, and given back, 6 was in use, and is given back.
func mixed(t *testing.T) *bench {
	t.Helper()
	b := laid(t, 121)
	b.has(3, 4, 5, 6)
	b.begins()
	b.unrefs(4, api.OK)
	b.unrefs(5, api.OK)
	b.commits()
	b.begins()
	b.fresh(40, 4)
	b.fresh(50, 5)
	b.unrefs(5, api.OK)
	b.unrefs(6, api.OK)
	b.free(114)
	return b
}

// TestWhich: what each call answers of each page, and of none.
func TestWhich(t *testing.T) {
	for n, want := range map[int]struct{ write, refer api.Errno }{
		least: {api.ErrRange, api.ErrRange}, -1 << 32: {api.ErrRange, api.ErrRange}, -1: {api.ErrRange, api.ErrRange},
		0: {api.OK, api.ErrRange}, 1: {api.ErrRange, api.ErrRange}, 2: {api.ErrRange, api.ErrRange},
		3: {}, 4: {}, 5: {api.ErrRange, api.ErrRange}, 6: {api.ErrRange, api.ErrRange}, 7: {api.ErrRange, api.ErrRange},
		120: {api.ErrRange, api.ErrRange}, 121: {api.ErrRange, api.ErrRange}, 122: {api.ErrRange, api.ErrRange},
		1 << 32: {api.ErrRange, api.ErrRange}, 1<<32 + 3: {api.ErrRange, api.ErrRange}, most: {api.ErrRange, api.ErrRange},
	} {
		b := mixed(t)
		b.writes(n, 9, want.write)
		if want.write == api.OK {
			b.reads(n, page(9))
		}
		for _, x := range badPages() {
			if want.write == api.OK {
				b.is("Write", b.p.Write(n, x), api.ErrArg)
				b.reads(n, page(9))
			} else {
				b.is("Write", b.p.Write(n, x), api.ErrRange)
			}
		}
		count := b.p.Count(n)
		b.refs(n, want.refer)
		if want.refer == api.OK {
			b.counted(n, 2)
		} else {
			b.counted(n, count)
		}
		b.unrefs(n, want.refer)
		b.counted(n, count)
		b.free(114)
		b.unrefs(n, want.refer)
		if want.refer == api.OK {
			b.counted(n, 0)
			for range 2 {
				b.unrefs(n, api.ErrRange)
				b.refs(n, api.ErrRange)
				b.writes(n, 1, api.ErrRange)
			}
		}
		b.fresh(70, 7)
		b.commits()
		b.counted(0, 1, 1, 1)
		b.begins()
		b.writes(0, 1, api.OK)
		if want.refer == api.OK {
			b.fresh(71, n)
		} else {
			b.fresh(71, 5)
		}
	}
}

// TestEachPage: behind a Format no page but the catalogue may be written, and none be referred to; once they are in use all others may be, but those of counts.
func TestEachPage(t *testing.T) {
	for _, pages := range sizes() {
		b := laid(t, pages)
		r := many(pages)
		b.begins()
		for n := -1; n <= pages; n++ {
			b.refs(n, api.ErrRange)
			b.unrefs(n, api.ErrRange)
			if n != 0 {
				b.writes(n, 1, api.ErrRange)
			}
		}
		b.aborts()
		b.isNew()
		b.has(from(r+1, pages-r-1)...)
		for n := range pages {
			b.begins()
			if n > 0 && n <= r {
				b.writes(n, 1, api.ErrRange)
			} else {
				b.writes(n, 1, api.OK)
			}
			if n <= r {
				b.refs(n, api.ErrRange)
				b.unrefs(n, api.ErrRange)
			} else {
				b.refs(n, api.OK)
				b.unrefs(n, api.OK)
				b.unrefs(n, api.OK)
			}
			b.aborts()
		}
	}
}

// TestCatalogue: page 0 may be written, by whatever page may be; but only as a catalogue it is opened again.
func TestCatalogue(t *testing.T) {
	b := small(t)
	b.begins()
	for kind := api.KindCatalogue; kind <= api.KindData; kind++ {
		x := api.Page{Kind: kind, Body: page(7).Body}
		b.is("Write", b.p.Write(0, x), api.OK)
		b.reads(0, x)
	}
	b.commits()
	b.reads(0, api.Page{Kind: api.KindData, Body: page(7).Body})
	b.counted(0, 1)
	b.refuses(b.p.Store(), api.ErrImage)
	b.refuses(b.store(), api.ErrImage)
}

// TestFresh: the least page that is free, whatever was taken and given back in whatever order.
func TestFresh(t *testing.T) {
	b := small(t)
	b.has(from(2, 9)...)
	b.begins()
	for _, n := range []int{7, 3, 10, 4} {
		b.unrefs(n, api.OK)
	}
	b.fresh(1, 11)
	b.commits()
	b.begins()
	for _, n := range []int{3, 4, 7, 10, 12, 13} {
		b.fresh(byte(20+n), n)
		b.counted(n, 1)
		b.reads(n, page(byte(20+n)))
	}
	b.commits()
	b.free(2)
	b.opens()
	b.reads(7, page(27))
	b.reads(6, page(6))
	b.begins()
	b.fresh(9, 14)
}

// TestFreshKinds: any page that may be.
func TestFreshKinds(t *testing.T) {
	b := small(t)
	b.begins()
	for kind := api.KindCatalogue; kind <= api.KindData; kind++ {
		x := api.Page{Kind: kind, Body: page(3).Body}
		n, e := b.p.Fresh(x)
		if n != 1+kind || e != api.OK {
			t.Errorf("Fresh = %d, %v", n, e)
		}
		b.reads(n, x)
	}
	b.commits()
	b.opens()
	b.reads(2, api.Page{Kind: api.KindCatalogue, Body: page(3).Body})
	b.reads(3, api.Page{Kind: api.KindCounts, Body: page(3).Body})
}

// TestSpace: with no page free there is none, whatever is asked for; one that was given back in the transaction is none, either.
func TestSpace(t *testing.T) {
	for _, pages := range sizes() {
		b := laid(t, pages)
		first := many(pages) + 1
		b.has(from(first, pages-first)...)
		was := b.state()
		b.begins()
		full := func() {
			t.Helper()
			b.free(0)
			b.noFresh(page(1), api.ErrSpace)
			for _, x := range badPages() {
				b.noFresh(x, api.ErrSpace)
			}
		}
		full()
		b.unrefs(pages-1, api.OK)
		b.unrefs(first, api.OK)
		full()
		b.aborts()
		b.stays(was)
		b.begins()
		full()
		b.unrefs(pages-1, api.OK)
		b.unrefs(first, api.OK)
		full()
		b.commits()
		b.free(2)
		b.begins()
		b.fresh(1, first)
		b.fresh(2, pages-1)
		full()
		b.unrefs(first, api.OK)
		full()
		b.commits()
		b.has(first)
		b.begins()
		full()
	}
}

// TestFreshRefused: what the store refuses is not in use, and not taken again ahead of the transaction's end, be it done or not.
func TestFreshRefused(t *testing.T) {
	for _, end := range []func(b *bench){(*bench).commits, (*bench).aborts} {
		b := small(t)
		was := b.state()
		b.begins()
		for i, x := range badPages() {
			b.noFresh(x, api.ErrArg)
			b.counted(2+i, 0)
			b.free(13 - i)
			b.writes(2+i, 1, api.ErrRange)
			b.refs(2+i, api.ErrRange)
			b.unrefs(2+i, api.ErrRange)
		}
		b.fresh(1, 9)
		b.unrefs(9, api.OK)
		b.fresh(2, 10)
		for range 5 {
			b.noFresh(api.Page{}, api.ErrArg)
		}
		b.noFresh(api.Page{}, api.ErrSpace)
		b.noFresh(page(1), api.ErrSpace)
		b.unrefs(10, api.OK)
		b.noFresh(page(1), api.ErrSpace)
		end(b)
		b.free(14)
		b.counted(2, was.counts[2:]...)
		b.has(from(2, 14)...)
	}
}

// TestCounts: a page may be referred to 1000 times, and once less as often; what is refused changes nothing.
func TestCounts(t *testing.T) {
	b := small(t)
	b.begins()
	b.fresh(1, 2)
	b.fresh(2, 3)
	for n := 2; n <= 1000; n++ {
		b.refs(2, api.OK)
		b.counted(2, n, 1)
	}
	for range 2 {
		b.refs(2, api.ErrCount)
		b.counted(2, 1000, 1)
	}
	b.commits()
	b.opens()
	b.begins()
	b.refs(2, api.ErrCount)
	b.unrefs(2, api.OK)
	b.refs(2, api.OK)
	b.refs(2, api.ErrCount)
	b.writes(2, 7, api.OK)
	b.commits()
	b.begins()
	for n := 999; n >= 0; n-- {
		b.writes(2, byte(n), api.OK)
		b.unrefs(2, api.OK)
		b.counted(2, n, 1)
		b.free(12)
	}
	for range 2 {
		b.unrefs(2, api.ErrRange)
		b.refs(2, api.ErrRange)
		b.writes(2, 1, api.ErrRange)
		b.counted(2, 0, 1)
	}
	b.commits()
	b.free(13)
	b.begins()
	b.fresh(1, 2)
	b.counted(2, 1, 1)
}

// TestRead: the store's: any page, as the transaction under way has it; the counts are as the last one left them.
func TestRead(t *testing.T) {
	b := small(t)
	for _, n := range []int{least, -1, 16, 1 << 32, most} {
		if x, e := b.p.Read(n); e != api.ErrRange || !same(x, api.Page{}) {
			t.Errorf("Read(%d) = %v, %v", n, x, e)
		}
	}
	b.begins()
	b.reads(9, api.Page{})
	b.fresh(1, 2)
	b.reads(2, page(1))
	b.reads(1, countsOf(1, 1))
	b.writes(2, 2, api.OK)
	b.reads(2, page(2))
	b.aborts()
	b.reads(2, api.Page{})
	b.begins()
	b.fresh(3, 2)
	b.refs(2, api.OK)
	b.commits()
	b.reads(2, page(3))
	b.reads(1, countsOf(1, 1, 2))
	b.begins()
	b.unrefs(2, api.OK)
	b.unrefs(2, api.OK)
	b.reads(2, page(3))
	b.commits()
	b.reads(1, countsOf(1, 1))
	b.is("Checkpoint", b.p.Checkpoint(), api.OK)
	b.is("Fail", b.d.Fail(api.FailRead, 1), api.OK)
	if x, e := b.p.Read(2); e != api.ErrRead || !same(x, api.Page{}) {
		t.Errorf("Read = %v, %v", x, e)
	}
	b.reads(2, page(3))
	b.is("Write", b.d.Write(4, badPages()[2].Body[:0:0], false), api.ErrArg)
	b.is("Write", b.d.Write(4, make([]byte, 255+1), false), api.OK)
	b.reads(2, api.Page{})
	b.is("Write", b.d.Write(4, append(make([]byte, 255), 1), false), api.OK)
	if x, e := b.p.Read(2); e != api.ErrSum || !same(x, api.Page{}) {
		t.Errorf("Read = %v, %v", x, e)
	}
}
