package sweep_test

import (
	"bytes"
	"slices"
	"testing"

	"polder/api"
	"polder/codec"
	"polder/disk"
	"polder/pool"
	"polder/store"
	"polder/sweep"
	"polder/volumes"
)

// never is an ordinal that no test comes to: a disk that is to fail there does not.
const never = 1 << 40

// bench is a pool in a test, its volumes, and what the live ones of them are to be read as.
type bench struct {
	*testing.T
	d     *disk.Disk
	pages int
	p     *pool.Pool
	v     *volumes.Volumes
	told  map[int][]byte // by ID, all blocks
	held  map[int]int    // how often the test refers to pages
}

// laid is a new pool of so many pages, with a log behind them, and its empty catalogue.
func laid(t *testing.T, pages int) *bench { t.Helper(); return laidWith(t, pages, 200) }

// laidWith is one whose log has so many sectors.
func laidWith(t *testing.T, pages, logSize int) *bench {
	t.Helper()
	d, e := disk.New(2 + pages + logSize)
	if e != api.OK {
		t.Fatalf("disk.New: %v", e)
	}
	b := &bench{T: t, d: d, pages: pages, told: map[int][]byte{}, held: map[int]int{}}
	b.is("Format", pool.Format(d, pages, 2+pages, logSize), api.OK)
	b.opens()
	return b
}

// opens opens the pool and its catalogue, anew.
func (b *bench) opens() {
	b.Helper()
	if e := b.triesToOpen(); e != api.OK {
		b.Fatalf("opened: %v", e)
	}
}

// triesToOpen does so, where the disk may refuse it.
func (b *bench) triesToOpen() api.Errno {
	b.Helper()
	s, e := store.Open(b.d)
	if e != api.OK {
		return e
	}
	p, e := pool.Open(s)
	if e != api.OK {
		return e
	}
	v, e := volumes.Open(p)
	if e != api.OK {
		return e
	}
	b.p, b.v = p, v
	return api.OK
}

// is asks what a call answered.
func (b *bench) is(call string, got, want api.Errno) {
	b.Helper()
	if got != want {
		b.Fatalf("%s = %v, not %v", call, got, want)
	}
}

func (b *bench) begins()     { b.Helper(); b.is("Begin", b.p.Begin(), api.OK) }
func (b *bench) commits()    { b.Helper(); b.is("Commit", b.p.Commit(), api.OK) }
func (b *bench) syncs()      { b.Helper(); b.is("Sync", b.v.Sync(), api.OK) }
func (b *bench) checkpoint() { b.Helper(); b.is("Checkpoint", b.p.Checkpoint(), api.OK) }

// firstPages is how many pages are the catalogue and the counts.
func firstPages(pages int) int { return 1 + (pages+119)/120 }

// blocks are the bytes of so many blocks, none like another one, which numbers tell from one on.
func blocks(first, many int) []byte {
	data := make([]byte, 64*many)
	for i := range data {
		n := first + i/64
		data[i] = byte(n + 7*(i%64) + 1)
		if i%64 == 63 {
			data[i] = byte(n >> 8)
		}
	}
	return data
}

// creates makes a volume of so many blocks: its ID.
func (b *bench) creates(size int) int {
	b.Helper()
	id, e := b.v.Create(size, api.MaxBlocks)
	b.is("Create", e, api.OK)
	b.told[id] = make([]byte, 64*size)
	return id
}

// snapshots makes a snapshot: its ID.
func (b *bench) snapshots(of int) int {
	b.Helper()
	id, e := b.v.Snapshot(of)
	b.is("Snapshot", e, api.OK)
	b.told[id] = bytes.Clone(b.told[of])
	return id
}

// writes writes many blocks of a volume, as eight at most go by one call.
func (b *bench) writes(id, at, first, many int) {
	b.Helper()
	for done := 0; done < many; done += 8 {
		part := blocks(first+done, min(8, many-done))
		_, e := b.v.Write(id, at+done, part, false)
		b.is("Write", e, api.OK)
		copy(b.told[id][64*(at+done):], part)
	}
}

// unmaps unmaps up to eight blocks.
func (b *bench) unmaps(id, at, count int) {
	b.Helper()
	_, e := b.v.Unmap(id, at, count)
	b.is("Unmap", e, api.OK)
	clear(b.told[id][64*at : 64*(at+count)])
}

// deletes deletes volumes.
func (b *bench) deletes(ids ...int) {
	b.Helper()
	for _, id := range ids {
		b.is("Delete", b.v.Delete(id), api.OK)
		delete(b.told, id)
	}
}

// changes has the catalogue be changed by hand.
func (b *bench) changes(do func(c *api.Catalogue)) {
	b.Helper()
	c := b.v.Catalogue()
	do(&c)
	b.begins()
	b.is("Change", b.v.Change(c), api.OK)
}

// holds writes a page, to which the test refers.
func (b *bench) holds(x api.Page) int {
	b.Helper()
	b.begins()
	n, e := b.p.Fresh(x)
	b.is("Fresh", e, api.OK)
	b.commits()
	b.held[n]++
	return n
}

// fills has the test hold pages till so many are free.
func (b *bench) fills(free int) {
	b.Helper()
	for b.p.Free() > free {
		b.holds(dataPage())
	}
}

// dataPage is a block's page.
func dataPage() api.Page {
	return api.Page{Kind: api.KindData, Body: append(blocks(1, 1), make([]byte, 176)...)}
}

// readsAll asks for all blocks of the live volumes; there are no others.
func (b *bench) readsAll() {
	b.Helper()
	if l := b.v.List(); len(l) != len(b.told) {
		b.Fatalf("%v are live, not %d", l, len(b.told))
	}
	for id, want := range b.told {
		for at := 0; at < len(want)/64; at += 8 {
			part := want[64*at : min(64*at+512, len(want))]
			if got, e := b.v.Read(id, at, len(part)/64); e != api.OK || !bytes.Equal(got, part) {
				b.Fatalf("Read(%d, %d, %d) = %v, %v, not %v", id, at, len(part)/64, got, e, part)
			}
		}
	}
}

// quiet asks that something doesn't ask the disk for anything.
func (b *bench) quiet(what string, do func()) {
	b.Helper()
	for _, kind := range []int{api.FailRead, api.FailWrite, api.FailFlush} {
		b.is("Fail", b.d.Fail(kind, 1), api.OK)
	}
	do()
	if _, e := b.d.Read(0, 1); e != api.ErrRead {
		b.Errorf("%s: the disk was read", what)
	}
	if e := b.d.Write(0, make([]byte, 256), false); e != api.ErrWrite {
		b.Fatalf("%s: the disk was written", what)
	}
	if e := b.d.Flush(); e != api.ErrFlush {
		b.Errorf("%s: the disk was flushed", what)
	}
}

// steps does a step, which has to be the one that the chapter tells; it tells whether there was anything to do.
func (b *bench) steps() bool {
	b.Helper()
	was := b.state()
	want, more := was.next()
	got, e := sweep.Step(b.v)
	if got != more || e != api.OK {
		b.Fatalf("Step = %v, %v, not %v; of %v", got, e, more, was.catalogue)
	}
	b.stays(want)
	return more
}

// rests asks that there is nothing to do: nothing is asked of the disk, and all stays.
func (b *bench) rests() {
	b.Helper()
	was := b.state()
	b.quiet("Step with nothing to do", func() {
		for range 2 {
			if more, e := sweep.Step(b.v); more || e != api.OK {
				b.Errorf("Step = %v, %v", more, e)
			}
		}
	})
	b.stays(was)
}

// stack asks what is on the stack.
func (b *bench) stack(want ...int) {
	b.Helper()
	if got := b.v.Catalogue().Stack; !slices.Equal(got, want) {
		b.Fatalf("the stack is %v, not %v", got, want)
	}
}

// TestExample is the chapter's.
func TestExample(t *testing.T) {
	b := laid(t, 64)
	b.creates(9)
	b.writes(1, 0, 1, 8)
	b.writes(1, 8, 9, 1)
	root := b.v.Catalogue().Volumes[0].Root
	page, _ := b.p.Read(root)
	x, _ := codec.GetNode(page.Body)
	if x.Leaf || len(x.Vals) != 2 {
		t.Fatalf("the root is %v", x)
	}
	b.deletes(1)
	for _, stack := range [][]int{{root}, {root, x.Vals[1]}, {root}, {x.Vals[0]}, nil} {
		if more, e := sweep.Step(b.v); !more || e != api.OK {
			t.Errorf("Step = %v, %v", more, e)
		}
		b.stack(stack...)
	}
	b.rests()
	if b.p.Free() != 64-2 {
		t.Errorf("%d pages are free", b.p.Free())
	}
}

// TestNil: without volumes.
func TestNil(t *testing.T) {
	if more, e := sweep.Step(nil); more || e != api.ErrArg {
		t.Errorf("Step(nil) = %v, %v", more, e)
	}
}

// TestNone: volumes that nobody opened have nothing to be given back.
func TestNone(t *testing.T) {
	if more, e := sweep.Step(&volumes.Volumes{}); more || e != api.OK {
		t.Errorf("Step = %v, %v", more, e)
	}
}

// TestNothing: no volume is dying, and no node is on the stack: no transaction, and nothing is asked of the disk.
func TestNothing(t *testing.T) {
	b := laid(t, 64)
	b.rests()
	for range 7 {
		id := b.creates(10)
		b.writes(id, 2, 10*id, 3)
		b.rests()
	}
	b.snapshots(3) // all places have a live one
	b.rests()
	b.checkpoint()
	b.rests()
	b.opens()
	b.rests()
	b.readsAll()
}

// TestNothingBusy: with nothing to do a transaction of somebody else's is none of its business.
func TestNothingBusy(t *testing.T) {
	b := laid(t, 64)
	b.writes(b.creates(10), 3, 1, 4)
	for _, store := range []bool{false, true} {
		begin, end := b.p.Begin, b.p.Commit
		if store {
			begin, end = b.p.Store().Begin, b.p.Store().Commit
		}
		b.is("Begin", begin(), api.OK)
		b.is("Write", b.p.Store().Write(60, dataPage()), api.OK)
		b.rests()
		b.is("Commit", end(), api.OK) // it is under way still, and has what was written
		if x, e := b.p.Read(60); e != api.OK || !samePage(x, dataPage()) {
			t.Errorf("the page is %v, %v", x, e)
		}
		b.rests()
	}
	b.readsAll()
}

// TestDyingRoot: a dying volume's root goes on the stack, and its place is free; no count is changed, and nothing else is written.
func TestDyingRoot(t *testing.T) {
	for _, many := range []int{1, 8, 9, 40} {
		b := laid(t, 130)
		b.writes(b.creates(50), 0, 1, many)
		b.deletes(1)
		was := b.state()
		root := was.catalogue.Volumes[0].Root
		b.checkpoint()
		if more, e := sweep.Step(b.v); !more || e != api.OK {
			t.Errorf("Step = %v, %v", more, e)
		}
		c := b.v.Catalogue()
		if c.Next != 2 || !slices.Equal(c.Volumes, make([]api.Volume, 8)) || !slices.Equal(c.Stack, []int{root}) {
			t.Errorf("the catalogue is %v", c)
		}
		if dirty := b.p.Dirty(); !slices.Equal(dirty, []int{0}) {
			t.Errorf("%v were written", dirty)
		}
		if now := b.state(); !slices.Equal(now.counts, was.counts) || now.free != was.free {
			t.Error("a count was changed")
		}
	}
}

// TestDyingNoRoot: a dying volume that has no root leaves nothing; nor does one whose blocks were all unmapped.
func TestDyingNoRoot(t *testing.T) {
	b := laid(t, 64)
	b.creates(10)
	b.creates(20)
	b.writes(2, 3, 1, 4)
	b.unmaps(2, 3, 4)
	b.deletes(2, 1)
	for _, left := range []int{1, 0} {
		if more, e := sweep.Step(b.v); !more || e != api.OK {
			t.Errorf("Step = %v, %v", more, e)
		}
		c := b.v.Catalogue()
		if len(c.Stack) != 0 || c.Volumes[0] != (api.Volume{}) || (c.Volumes[1] != api.Volume{}) != (left == 1) {
			t.Errorf("the catalogue is %v", c)
		}
	}
	b.rests()
	if b.p.Free() != 62 {
		t.Errorf("%d pages are free", b.p.Free())
	}
}

// TestFirstPlace: of several dying volumes the one in the first place goes first, whatever its ID is and in whatever order they were deleted; live ones ahead of it and between them stay where they are.
func TestFirstPlace(t *testing.T) {
	for _, order := range [][]int{{9, 5, 7}, {7, 5, 9}, {5, 7, 9}, {9, 1, 3}, {1, 3, 9}, {8}, {1}, {9, 8, 7, 6, 5, 4, 3, 1}} {
		b := laid(t, 130)
		for range 8 {
			b.creates(10)
		}
		b.deletes(2)
		b.ends()
		b.creates(10) // the ID 9, in the second place
		place := map[int]int{1: 0, 9: 1, 3: 2, 4: 3, 5: 4, 6: 5, 7: 6, 8: 7}
		for _, id := range b.live() {
			b.writes(id, 0, 10*id, id%3) // some have no root
		}
		var want []int
		for _, id := range order {
			b.deletes(id)
			want = append(want, place[id])
		}
		slices.Sort(want)
		for _, at := range want {
			was := b.v.Catalogue()
			if was.Volumes[at].State != api.VolumeDying {
				t.Fatalf("the catalogue is %v", was)
			}
			for len(b.v.Catalogue().Stack) > 0 {
				b.steps()
			}
			root := b.v.Catalogue().Volumes[at].Root
			b.steps()
			now := b.v.Catalogue()
			was.Volumes[at] = api.Volume{}
			if !slices.Equal(now.Volumes, was.Volumes) || root == 0 && len(now.Stack) > 0 || root > 0 && !slices.Equal(now.Stack, []int{root}) {
				t.Fatalf("the catalogue is %v, not %v with the root %d on the stack", now, was, root)
			}
		}
		b.ends()
		b.readsAll()
	}
}

// TestStackFirst: while a node is on the stack no dying volume leaves its place, be it in the first one.
func TestStackFirst(t *testing.T) {
	b := laid(t, 130)
	for id := range 3 {
		b.creates(30)
		b.writes(id+1, 0, 100*id, 20)
	}
	b.deletes(2)
	b.steps()
	b.deletes(3, 1)
	for len(b.v.Catalogue().Stack) > 0 {
		if c := b.v.Catalogue(); c.Volumes[0].State != api.VolumeDying || c.Volumes[1] != (api.Volume{}) || c.Volumes[2].State != api.VolumeDying {
			t.Fatalf("the catalogue is %v", c)
		}
		b.steps()
	}
	root := b.v.Catalogue().Volumes[0].Root
	b.steps()
	b.stack(root)
	b.ends()
}

// TestSharedRoot: a root that a snapshot has, too, leaves the stack by one step, and stays.
func TestSharedRoot(t *testing.T) {
	b := laid(t, 64)
	b.creates(20)
	b.writes(1, 0, 1, 20)
	b.snapshots(1)
	b.deletes(1)
	root := b.v.Catalogue().Volumes[0].Root
	free := b.p.Free()
	b.steps()
	b.stack(root)
	b.steps()
	b.stack()
	b.rests()
	if b.p.Count(root) != 1 || b.p.Free() != free {
		t.Errorf("the root's count is %d, and %d pages are free", b.p.Count(root), b.p.Free())
	}
	b.readsAll()
}

// TestPlaceFree: a place is free as soon as its volume left it, for the next volume and the next snapshot.
func TestPlaceFree(t *testing.T) {
	for _, snapshot := range []bool{false, true} {
		for at := range 8 {
			b := laid(t, 130)
			for id := range 8 {
				b.creates(12)
				b.writes(id+1, 1, 10*id, 9)
			}
			b.deletes(at + 1)
			other := 1 + (at+1)%8
			add := func() (int, api.Errno) {
				if snapshot {
					return b.v.Snapshot(other)
				}
				return b.v.Create(5, 5)
			}
			if id, e := add(); id != 0 || e != api.ErrVolumes {
				t.Errorf("ahead of the step: %d, %v", id, e)
			}
			b.steps()
			if x := b.v.Catalogue().Volumes[at]; x != (api.Volume{}) {
				t.Errorf("the place is %v", x)
			}
			id, e := add()
			if x := b.v.Catalogue().Volumes[at]; id != 9 || e != api.OK || x.ID != 9 || x.State != api.VolumeLive {
				t.Errorf("%d, %v: the place is %v", id, e, x)
			}
			if snapshot {
				b.told[9] = bytes.Clone(b.told[other])
			} else {
				b.told[9] = make([]byte, 64*5)
			}
			b.ends()
			b.readsAll()
			b.deletes(9)
			b.ends()
			b.readsAll()
		}
	}
}

// TestOneTransaction: a step is one record of the log, and nothing is flushed for it: power that goes behind it takes it, unless somebody synced.
func TestOneTransaction(t *testing.T) {
	b := laid(t, 130)
	b.creates(60)
	b.writes(1, 0, 1, 60)
	b.creates(5)
	b.deletes(1, 2)
	b.opens() // so that the log is empty, and begins where it is far from going round
	for more := true; more; {
		was := b.state()
		var want state
		want, more = was.next()
		for _, synced := range []bool{false, true} {
			b.is("Fail", b.d.Fail(api.FailWrite, 2), api.OK)
			b.is("Fail", b.d.Fail(api.FailFlush, 1), api.OK)
			if got, e := sweep.Step(b.v); got != more || e != api.OK {
				t.Fatalf("Step = %v, %v", got, e)
			}
			b.stays(want)
			if more {
				// The second write from then on is still to fail.
				b.is("Write", b.d.Write(0, make([]byte, 256), false), api.ErrWrite)
			}
			b.is("Fail", b.d.Fail(api.FailWrite, never), api.OK)
			b.is("Flush", b.d.Flush(), api.ErrFlush)
			if synced {
				b.syncs()
			}
			b.d.Crash(nil)
			b.opens()
			if synced {
				b.stays(want)
			} else {
				b.stays(was)
			}
		}
	}
	b.rests()
}

// TestCatalogueKept: a catalogue that was asked for stays as it was, whatever steps are done; and what becomes of it changes no step.
func TestCatalogueKept(t *testing.T) {
	b := laid(t, 130)
	b.creates(40)
	b.writes(1, 0, 1, 40)
	b.deletes(1)
	for more := true; more; {
		was := b.v.Catalogue()
		same := api.Catalogue{Next: was.Next, Volumes: slices.Clone(was.Volumes), Stack: slices.Clone(was.Stack)}
		more = b.steps()
		if !sameCatalogue(was, same) {
			t.Errorf("%v became %v", same, was)
		}
		clear(was.Stack[:cap(was.Stack)])
		now := b.v.Catalogue()
		clear(now.Volumes)
		clear(now.Stack[:cap(now.Stack)])
	}
	b.rests()
}
