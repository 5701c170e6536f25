package pool_test

import (
	"slices"
	"testing"

	"polder/api"
	"polder/crc"
	"polder/super"
)

// dirty asks which pages are not home.
func (b *bench) dirty(want ...int) {
	b.Helper()
	if got := b.p.Dirty(); !slices.Equal(got, want) {
		b.Errorf("Dirty = %v, not %v", got, want)
	}
}

// home brings all pages home.
func (b *bench) home() {
	b.Helper()
	b.is("Checkpoint", b.p.Checkpoint(), api.OK)
	b.dirty()
}

// TestTouched: the pages of counts that were touched are written, and no others; without any, and without a page, nothing is asked of the disk.
func TestTouched(t *testing.T) {
	b := laid(t, 361)
	b.has(from(5, 356)...)
	for _, c := range []struct {
		refs []int
		want []int
	}{
		{[]int{5}, []int{1}}, {[]int{119}, []int{1}}, {[]int{120}, []int{2}}, {[]int{239, 240}, []int{2, 3}}, {[]int{359, 360}, []int{3, 4}},
		{[]int{360, 5}, []int{1, 4}}, {[]int{360, 240, 120, 119}, []int{1, 2, 3, 4}}, {[]int{360}, []int{4}},
	} {
		b.home()
		b.begins()
		for _, n := range c.refs {
			b.refs(n, api.OK)
		}
		b.dirty()
		b.commits()
		b.dirty(c.want...)
		was := b.state()
		b.opens()
		b.stays(was)
	}
	b.home()
	was := b.state()
	b.quiet("a Commit of nothing", func() {
		b.begins()
		b.commits()
		b.begins()
		b.refs(5, api.OK)
		b.unrefs(360, api.OK)
		b.refs(360, api.OK)
		b.unrefs(5, api.OK)
		b.commits()
	})
	b.dirty()
	b.stays(was)
	b.begins()
	b.writes(0, 0, api.OK)
	b.writes(300, 8, api.OK)
	b.commits()
	b.dirty(0, 300)
	b.home()
	b.begins()
	b.unrefs(300, api.OK)
	for range 3 {
		b.unrefs(5, api.OK)
	}
	b.commits()
	b.dirty(1, 3)
	b.home()
	b.begins()
	b.fresh(9, 5)
	b.unrefs(5, api.OK)
	b.fresh(10, 300)
	b.commits()
	b.dirty(3, 5, 300) // what was taken and given back was written all the same
	b.free(1)
}

// refusal is a Commit that the store refuses.
type refusal struct {
	what  string
	want  api.Errno
	ready func(b *bench) // ahead of the Begin
	then  func(b *bench) // ahead of the Commit
	mend  func(b *bench) // behind it
}

// fails has the disk fail once.
func fails(kind, n int) func(b *bench) {
	return func(b *bench) { b.is("Fail", b.d.Fail(kind, n), api.OK) }
}

func nothing(b *bench) {}

// fills leaves the log less room than a transaction of six pages needs.
func fills(b *bench) {
	b.Helper()
	for range 29 {
		b.begins()
		b.writes(0, 0, api.OK)
		b.commits()
	}
}

// lastGen is a pool whose store has the last Gen there is: no checkpoint is to be had any more.
func lastGen(b *bench) {
	b.Helper()
	b.home()
	x := b.p.Super()
	x.Gen, x.Epoch, x.Head, x.Seq = api.MaxNumber-1, x.Epoch+1, 0, 1
	b.is("Save", super.Save(b.d, crc.New(), x), api.OK)
	b.opens()
	fills(b)
}

// refusals are all of them but for too many pages.
func refusals() []refusal {
	return []refusal{
		{"the disk does not write", api.ErrWrite, nothing, fails(api.FailWrite, 1), nothing},
		{"the disk is cut", api.ErrWrite, nothing, func(b *bench) { b.is("Cut", b.d.Cut(0), api.OK) }, func(b *bench) { b.is("Cut", b.d.Cut(api.MaxNumber), api.OK) }},
		{"no checkpoint is to be had", api.ErrFull, lastGen, nothing, nothing},
		{"the checkpoint does not flush", api.ErrWrite, fills, fails(api.FailFlush, 1), nothing},
		{"the checkpoint does not flush what is home", api.ErrWrite, fills, fails(api.FailFlush, 2), nothing},
		{"the checkpoint does not write", api.ErrWrite, fills, fails(api.FailWrite, 1), nothing},
		{"the checkpoint does not save", api.ErrWrite, fills, fails(api.FailWrite, 2), nothing},
		{"the disk does not write behind the checkpoint", api.ErrWrite, fills, fails(api.FailWrite, 3), nothing},
	}
}

// before is a pool of two pages of counts, with pages in use in both, all of them home: 3 to 120, but 7.
func before(t *testing.T) *bench {
	t.Helper()
	b := laid(t, 130)
	b.has(from(3, 118)...)
	b.begins()
	b.refs(120, api.OK)
	b.unrefs(7, api.OK)
	b.commits()
	b.home()
	return b
}

// changes is a transaction that changes all that may be: pages 5, 7, 121 and 122, and both pages of counts are written.
func (b *bench) changes() {
	b.Helper()
	b.begins()
	b.writes(5, 99, api.OK)
	b.fresh(1, 7)
	b.fresh(2, 121)
	b.fresh(3, 122)
	b.unrefs(122, api.OK)
	b.unrefs(6, api.OK)
	b.refs(9, api.OK)
	b.unrefs(120, api.OK)
	b.free(7)
}

// changed is what it leaves.
func (b *bench) changed(was state) {
	b.Helper()
	b.counted(5, 1, 0, 1, 1, 2)
	b.counted(119, 1, 1, 1, 0, 0)
	b.free(was.free - 1)
	b.reads(5, page(99))
	b.reads(7, page(1))
	b.reads(121, page(2))
	b.begins()
	b.fresh(4, 6)
	b.fresh(5, 122)
	b.aborts()
}

// TestCommitRefused: then nothing has changed, nothing is under way, and the next transaction goes on as if this one had not been; so it is behind a crash.
func TestCommitRefused(t *testing.T) {
	for _, c := range refusals() {
		for _, crash := range []bool{false, true} {
			b := before(t)
			c.ready(b)
			b.is("Sync", b.p.Sync(), api.OK)
			was := b.state()
			b.changes()
			c.then(b)
			b.is("Commit, where "+c.what, b.p.Commit(), c.want)
			b.under(false)
			b.is("Commit", b.p.Commit(), api.ErrIdle)
			c.mend(b)
			b.stays(was)
			b.p.Abort()
			b.stays(was)
			if crash {
				b.d.Crash([]int{1, 1, 1, 1, 1, 1, 1, 1, 1})
				if c.want == api.ErrFull {
					continue // no store with this Gen is opened any more
				}
				b.opens()
				b.stays(was)
			}
			if c.want == api.ErrFull {
				b.begins()
				b.writes(5, 99, api.OK)
				b.commits()
				b.reads(5, page(99))
				b.counted(0, was.counts...)
				continue
			}
			b.changes()
			b.commits()
			b.changed(was)
			if t.Failed() {
				t.Fatalf("%s, crashed: %v", c.what, crash)
			}
		}
	}
}

// TestCommitGoesOn: with no room in the log a Commit makes some.
func TestCommitGoesOn(t *testing.T) {
	b := before(t)
	fills(b)
	was := b.state()
	b.changes()
	b.commits()
	b.changed(was)
	b.dirty(1, 2, 5, 7, 121, 122)
}

// TestTooBig: pages of counts are among the 40 that a transaction may write; what is too much is told by the call that comes to it, and a Commit that does changes nothing.
func TestTooBig(t *testing.T) {
	b := laid(t, 200)
	used := from(3, 100)
	b.has(used...)
	b.has(from(103, 30)...)
	was := b.state()
	for _, c := range []struct {
		writes int
		refs   []int
		want   api.Errno
	}{
		{40, nil, api.OK}, {39, []int{5}, api.OK}, {40, []int{5}, api.ErrTooBig}, {38, []int{5, 125}, api.OK},
		{39, []int{5, 125}, api.ErrTooBig}, {39, []int{125, 126}, api.OK}, {40, []int{125}, api.ErrTooBig},
	} {
		b.begins()
		for _, n := range used[:c.writes] {
			b.writes(n, byte(n), api.OK)
		}
		for _, n := range c.refs {
			b.refs(n, api.OK)
		}
		b.is("Commit", b.p.Commit(), c.want)
		b.under(false)
		if c.want != api.OK {
			b.stays(was)
		}
		b.opens()
		if c.want != api.OK {
			b.stays(was)
		}
		was = b.state()
	}
	b.begins()
	for _, n := range used[:40] {
		b.writes(n, byte(n+1), api.OK)
	}
	b.writes(used[40], 1, api.ErrTooBig)
	b.noFresh(page(1), api.ErrTooBig)
	b.noFresh(page(1), api.ErrTooBig)
	b.noFresh(api.Page{}, api.ErrArg)
	b.counted(133, 0, 0, 0)
	b.free(64)
	b.writes(133, 1, api.ErrRange)
	b.writes(used[39], 9, api.OK)
	b.commits()
	b.free(67)
	b.reads(used[39], page(9))
	b.counted(0, was.counts...)
	b.has(133, 134)
}

// TestAbort: nothing was done, whatever was; a second one does nothing more.
func TestAbort(t *testing.T) {
	b := before(t)
	was := b.state()
	b.quiet("a transaction that is aborted", func() {
		for range 2 {
			b.changes()
			b.aborts()
			b.under(false)
			b.aborts()
		}
	})
	b.stays(was)
	b.dirty()
	for _, change := range []func(){
		func() { b.fresh(1, 7) },
		func() { b.refs(5, api.OK) },
		func() { b.unrefs(5, api.OK) },
		func() { b.unrefs(120, api.OK) },
		func() { b.writes(5, 9, api.OK) },
		func() { b.writes(0, 9, api.OK) },
		func() { b.fresh(1, 7); b.unrefs(7, api.OK) },
		func() { b.noFresh(api.Page{}, api.ErrArg) },
	} {
		b.begins()
		change()
		b.aborts()
		b.stays(was)
	}
	b.changes()
	b.commits()
	b.changed(was)
}

// TestLate: what was given back is free behind the Commit, neither ahead of it nor where it is refused.
func TestLate(t *testing.T) {
	b := small(t)
	b.has(from(2, 14)...)
	b.begins()
	b.unrefs(5, api.OK)
	b.noFresh(page(1), api.ErrSpace)
	b.is("Fail", b.d.Fail(api.FailWrite, 1), api.OK)
	b.is("Commit", b.p.Commit(), api.ErrWrite)
	b.free(0)
	b.counted(5, 1)
	b.begins()
	b.noFresh(page(1), api.ErrSpace)
	b.unrefs(5, api.OK)
	b.noFresh(api.Page{}, api.ErrSpace)
	b.unrefs(6, api.OK)
	b.unrefs(5, api.ErrRange)
	b.noFresh(page(1), api.ErrSpace)
	b.free(0)
	b.commits()
	b.free(2)
	b.begins()
	b.noFresh(api.Page{}, api.ErrArg)
	b.unrefs(7, api.OK)
	b.fresh(1, 6)
	b.unrefs(6, api.OK)
	b.noFresh(page(1), api.ErrSpace)
	b.commits()
	b.free(3)
	b.begins()
	b.fresh(1, 5)
	b.fresh(2, 6)
	b.fresh(3, 7)
	b.noFresh(page(1), api.ErrSpace)
}
