package volumes_test

import (
	"bytes"
	"slices"
	"testing"

	"polder/api"
	"polder/ranges"
)

// dataPage is a block's page, by hand.
func dataPage(data []byte) api.Page {
	return api.Page{Kind: api.KindData, Body: append(slices.Clone(data), make([]byte, 240-len(data))...)}
}

// inUse is a pool with three volumes, of which one is a snapshot and one is dying.
func inUse(t *testing.T) *bench {
	t.Helper()
	b := laid(t, 130)
	b.creates(20, 20)
	b.creates(30, 30)
	for i := range 10 {
		b.writes(1, 2*i, fill(i), false)
	}
	b.writes(2, 7, blocks(50, 3), false)
	b.snapshots(1)
	b.writes(3, 4, fill(99), false)
	b.deletes(2)
	return b
}

// refusedChange asks for a Change that is refused, of a transaction that has written something, and ends it.
func (b *bench) refusedChange(c api.Catalogue, want api.Errno, ready func()) {
	b.Helper()
	was := b.state()
	b.begins()
	_, e := b.p.Fresh(dataPage(fill(1)))
	b.is("Fresh", e, api.OK)
	ready()
	b.is("Change", b.v.Change(c), want)
	b.stays(was) // so nothing is under way, either
	b.is("Change", b.v.Change(c), api.ErrIdle)
	b.stays(was)
	b.sound()
}

// TestChangeIdle: no transaction of the pool is under way.
func TestChangeIdle(t *testing.T) {
	b := inUse(t)
	was := b.state()
	good := b.v.Catalogue()
	good.Next++
	for _, end := range []func(){func() {}, func() { b.begins(); b.p.Abort() }, func() { b.begins(); b.commits() }, b.opens, b.checkpoint} {
		end()
		for _, c := range []api.Catalogue{good, b.v.Catalogue(), {}, {Next: -1}} {
			b.is("Change", b.v.Change(c), api.ErrIdle)
		}
		b.stays(was)
	}
	b.is("Begin", b.p.Store().Begin(), api.OK)
	b.is("Change", b.v.Change(good), api.ErrIdle)
	b.is("Write", b.p.Store().Write(99, dataPage(fill(1))), api.OK) // it is under way still
	b.p.Store().Abort()
	b.stays(was)
}

// TestChangeArg: a catalogue that may not be; the transaction is aborted.
func TestChangeArg(t *testing.T) {
	b := inUse(t)
	bad := func(change func(c *api.Catalogue)) {
		t.Helper()
		c := b.v.Catalogue()
		change(&c)
		b.refusedChange(c, api.ErrArg, func() {})
	}
	for _, n := range []int{least, -1, 1<<30 + 1, 1 << 32, most} {
		bad(func(c *api.Catalogue) { c.Next = n })
		for at := range 8 {
			bad(func(c *api.Catalogue) { c.Volumes[at].ID = n })
			bad(func(c *api.Catalogue) { c.Volumes[at].State = n })
			bad(func(c *api.Catalogue) { c.Volumes[at].Size = n })
			bad(func(c *api.Catalogue) { c.Volumes[at].Quota = n })
			bad(func(c *api.Catalogue) { c.Volumes[at].Root = n })
			bad(func(c *api.Catalogue) { c.Volumes[at].Mapped = n })
			bad(func(c *api.Catalogue) { c.Stack = make([]int, 8); c.Stack[at] = n })
		}
	}
	bad(func(c *api.Catalogue) { c.Volumes[5].State = 3 })
	bad(func(c *api.Catalogue) { c.Volumes[5].Size = 1<<20 + 1 })
	bad(func(c *api.Catalogue) { c.Volumes[5].Root = 1024 })
	bad(func(c *api.Catalogue) { c.Stack = []int{1024} })
	bad(func(c *api.Catalogue) { c.Stack = make([]int, 9) })
	bad(func(c *api.Catalogue) { c.Volumes = nil })
	bad(func(c *api.Catalogue) { c.Volumes = c.Volumes[:7] })
	bad(func(c *api.Catalogue) { c.Volumes = append(c.Volumes, api.Volume{}) })
	bad(func(c *api.Catalogue) { *c = api.Catalogue{} })
	b.readsAll()
}

// TestChangeRefused: a Commit that is refused, and a transaction that has no room for the catalogue.
func TestChangeRefused(t *testing.T) {
	b := inUse(t)
	good := b.v.Catalogue()
	good.Next += 5
	good.Stack = []int{9}
	good.Volumes[0].Size = 19
	fresh := func(many int) func() {
		return func() {
			b.Helper()
			for range many {
				_, e := b.p.Fresh(dataPage(fill(2)))
				b.is("Fresh", e, api.OK)
			}
		}
	}
	b.refusedChange(good, api.ErrTooBig, fresh(39)) // with the first one 40 pages
	b.refusedChange(good, api.ErrTooBig, fresh(38)) // with the catalogue 40, and then the counts
	b.refusedChange(good, api.ErrWrite, func() { b.is("Fail", b.d.Fail(api.FailWrite, 1), api.OK) })
	b.refusedChange(good, api.ErrWrite, func() { b.is("Cut", b.d.Cut(0), api.OK) })
	b.is("Cut", b.d.Cut(1<<30), api.OK)
	was := b.state()
	b.syncs()
	b.d.Crash(nil)
	b.opens()
	b.stays(was)
	b.readsAll()
}

// TestChangeDone: the catalogue and all that the transaction has, in one; it is not synced.
func TestChangeDone(t *testing.T) {
	b := inUse(t)
	b.syncs()
	was := b.state()
	for _, synced := range []bool{false, true} {
		c := b.v.Catalogue()
		c.Next = 1000
		c.Volumes[0].Size, c.Volumes[0].Quota = 25, 11
		root := c.Volumes[1].Root
		c.Volumes[1], c.Stack = api.Volume{}, []int{root}
		b.begins()
		stack, e := ranges.Fell(b.p, c.Stack)
		b.is("Fell", e, api.OK)
		c.Stack = stack
		b.is("Fail", b.d.Fail(api.FailFlush, 1), api.OK)
		b.is("Change", b.v.Change(c), api.OK)
		b.is("Flush", b.d.Flush(), api.ErrFlush)
		if got := b.v.Catalogue(); !sameCatalogue(got, c) || b.p.Under() {
			t.Errorf("the catalogue is %v, not %v", got, c)
		}
		if synced {
			b.syncs()
		}
		b.d.Crash(nil)
		b.opens()
		if !synced {
			b.stays(was)
			b.sound()
		}
	}
	b.next, b.stack = 1000, nil // three blocks, in one leaf
	b.places[0].Size, b.places[0].Quota, b.places[1] = 25, 11, place{}
	b.sound()
	b.readsAll()
	if id := b.creates(9, 9); id != 1000 || b.v.Catalogue().Volumes[1].ID != 1000 {
		t.Errorf("the next one is %d in %v", id, b.v.Catalogue())
	}
}

// TestChangeAny: whatever codec writes is taken.
func TestChangeAny(t *testing.T) {
	b := laid(t, 64)
	full := api.Volume{ID: 1 << 30, State: 2, Size: 1 << 20, Quota: 1 << 20, Root: 1023, Mapped: 1 << 20}
	for _, c := range []api.Catalogue{
		{Volumes: make([]api.Volume, 8)},
		{Next: 1 << 30, Volumes: slices.Repeat([]api.Volume{full}, 8), Stack: []int{1023, 1023, 1023, 1023, 0, 1, 1023, 1023}},
		{Next: 5, Volumes: places(map[int]api.Volume{3: {ID: 9, State: 1}, 4: {ID: 9, State: 1}, 5: {Size: 3}})},
		{Next: 1, Volumes: make([]api.Volume, 8), Stack: []int{}},
	} {
		b.begins()
		b.is("Change", b.v.Change(c), api.OK)
		page, e := b.p.Read(0)
		if got := b.v.Catalogue(); !sameCatalogue(got, c) || e != api.OK || !samePage(page, api.Page{Kind: api.KindCatalogue, Body: bytesOf(c)}) {
			t.Errorf("the catalogue is %v, %v, %v, not %v", got, page, e, c)
		}
	}
	b.sound()
}

// TestBusy: while a transaction is under way whatever is not refused for something else is told to come again, and the transaction goes on.
func TestBusy(t *testing.T) {
	b := inUse(t)
	calls := append(b.each(1), b.creating(10, 10), b.writing(1, 0, blocks(1, 8), true), b.unmapping(3, 1, 1), b.resizing(1, 20))
	for _, whole := range []bool{false, true} {
		b.begins()
		n, e := b.p.Fresh(dataPage(fill(8)))
		b.is("Fresh", e, api.OK)
		was := b.state()
		for _, a := range calls {
			want := api.ErrBusy
			switch a.name {
			case "Read 1 0 1":
				want = api.OK
			case "Resize 1 5":
				want = api.ErrInUse
			}
			b.is(a.name, a.call(), want)
			b.stays(was)
		}
		b.is("Sync", b.v.Sync(), api.ErrBusy)
		for _, a := range b.each(2) {
			b.is(a.name, a.call(), api.ErrVolume)
		}
		b.is("Create", b.creating(0, 0).call(), api.ErrArg)
		for _, at := range []int{least, -1, 13, 20, most - 7, most} {
			b.is("Write", b.writing(1, at, blocks(1, 8), true).call(), api.ErrBlock)
			b.is("Write", b.writing(1, at, make([]byte, 65), true).call(), api.ErrArg)
			b.is("Unmap", b.unmapping(1, at, 8).call(), api.ErrBlock)
			b.is("Unmap", b.unmapping(1, at, 9).call(), api.ErrArg)
		}
		b.reads(3, 3, 4)
		b.stays(was)
		if !whole {
			b.p.Abort()
			continue
		}
		b.commits()
		b.held[n]++
		b.sound()
	}
	b.is("Begin", b.p.Store().Begin(), api.OK)
	was := b.state()
	for _, a := range calls {
		if want := a.call(); want != api.ErrBusy && a.name != "Read 1 0 1" && a.name != "Resize 1 5" {
			t.Errorf("%s = %v", a.name, want)
		}
	}
	b.stays(was)
	b.is("Commit", b.p.Store().Commit(), api.OK)
	b.sound()
	b.readsAll()
}

// TestSync: the store's.
func TestSync(t *testing.T) {
	b := inUse(t)
	b.writes(1, 1, fill(1), false)
	b.is("Fail", b.d.Fail(api.FailFlush, 1), api.OK)
	b.is("Sync", b.v.Sync(), api.ErrFlush)
	was := b.state()
	b.syncs()
	b.writes(1, 2, fill(2), false)
	b.d.Crash(nil)
	b.opens()
	b.stays(was)
}

// TestListOrder: by ID, whatever places they have, and live ones alone.
func TestListOrder(t *testing.T) {
	b := laid(t, 64)
	for range 8 {
		b.creates(10, 10)
	}
	b.lists(1, 2, 3, 4, 5, 6, 7, 8)
	b.deletes(5, 1, 8)
	b.lists(2, 3, 4, 6, 7)
	b.vacates(1, 5)
	b.creates(4, 4)
	b.creates(5, 5)
	b.lists(2, 3, 4, 6, 7, 9, 10)
	b.deletes(3, 9)
	b.lists(2, 4, 6, 7, 10)
	for i, x := range b.v.List() {
		want := b.at([]int{2, 4, 6, 7, 10}[i]).Volume
		if x != want {
			t.Errorf("%v is listed, not %v", x, want)
		}
	}
	b.deletes(2, 4, 6, 7, 10)
	b.lists()
}

// spoil changes all that a list has, its spare room too.
func spoil[T any](l []T, with T) {
	l = l[:cap(l)]
	for i := range l {
		l[i] = with
	}
}

// TestMemory: what is told is the caller's own, and what was handed in stays the caller's.
func TestMemory(t *testing.T) {
	b := inUse(t)
	junk := api.Volume{ID: 77, State: 1, Size: 7, Quota: 7, Root: 7, Mapped: 7}
	b.changes(api.Catalogue{Next: 9, Volumes: b.v.Catalogue().Volumes})
	spoilAll := func() {
		t.Helper()
		c := b.v.Catalogue()
		spoil(c.Stack, 5)
		if !sameCatalogue(api.Catalogue{Volumes: c.Volumes}, api.Catalogue{Volumes: b.v.Catalogue().Volumes}) {
			t.Error("two lists of a catalogue share memory")
		}
		spoil(c.Volumes, junk)
		spoil(b.v.List(), junk)
		for _, at := range []int{0, 4} {
			data, _ := b.v.Read(1, at, 8)
			spoil(data, 99)
		}
		b.sound()
		b.readsAll()
	}
	spoilAll()
	whole := append(append([]byte{1, 2}, blocks(70, 4)...), 3, 4)
	before := bytes.Clone(whole)
	b.writes(1, 5, whole[2:258], true)
	if !bytes.Equal(whole, before) {
		t.Error("what was handed to Write was changed")
	}
	spoil(whole, 88)
	spoilAll()
	c := b.v.Catalogue()
	n := c.Volumes[1].Root
	c.Volumes[1], b.places[1] = api.Volume{}, place{}
	handed := api.Catalogue{Next: 12, Volumes: append(make([]api.Volume, 0, 12), c.Volumes...), Stack: append(make([]int, 0, 9), n)}
	b.changes(handed)
	if !sameCatalogue(handed, api.Catalogue{Next: 12, Volumes: c.Volumes, Stack: []int{n}}) || slices.Max(handed.Stack[:9]) != n || handed.Volumes[:12][11] != (api.Volume{}) {
		t.Errorf("what was handed to Change became %v", handed)
	}
	spoil(handed.Volumes, junk)
	spoil(handed.Stack, 3)
	spoilAll()
}
