package volumes_test

import (
	"bytes"
	"maps"
	"testing"

	"polder/api"
	"polder/crc"
	"polder/super"
)

// unwritten are ways in which a Commit is refused.
type unwritten struct {
	what  string
	want  api.Errno
	ready func(b *bench)
	mend  func(b *bench)
}

// fails has the disk fail once.
func fails(kind, n int) func(b *bench) {
	return func(b *bench) { b.is("Fail", b.d.Fail(kind, n), api.OK) }
}

func nothing(*bench) {}

// fillsLog leaves the log no room.
func fillsLog(b *bench) {
	b.Helper()
	b.checkpoint()
	for range logSize / 2 {
		b.begins()
		b.is("Change", b.v.Change(b.v.Catalogue()), api.OK)
	}
}

// lastGen is a store with the last Gen there is: no checkpoint is to be had any more.
func lastGen(b *bench) {
	b.Helper()
	b.checkpoint()
	x := b.p.Super()
	x.Gen, x.Epoch, x.Head, x.Seq = api.MaxNumber-1, x.Epoch+1, 0, 1
	b.is("Save", super.Save(b.d, crc.New(), x), api.OK)
	b.opens()
	fillsLog(b)
}

// allUnwritten are they.
func allUnwritten() []unwritten {
	return []unwritten{
		{"the disk does not write", api.ErrWrite, fails(api.FailWrite, 1), nothing},
		{"the disk is cut", api.ErrWrite, func(b *bench) { b.is("Cut", b.d.Cut(0), api.OK) }, func(b *bench) { b.is("Cut", b.d.Cut(1<<30), api.OK) }},
		{"a checkpoint does not flush", api.ErrWrite, func(b *bench) { fillsLog(b); fails(api.FailFlush, 1)(b) }, nothing},
		{"a checkpoint does not write", api.ErrWrite, func(b *bench) { fillsLog(b); fails(api.FailWrite, 1)(b) }, nothing},
		{"no checkpoint is to be had", api.ErrFull, lastGen, nil},
	}
}

// done is a call that may be done, and what is to have come of it then.
type done struct {
	attempt
	then func(x *told)
}

// allDone are calls of which each changes a pool that is in use.
func (b *bench) allDone() []done {
	return []done{
		{b.creating(7, 3), func(x *told) { x.added(api.Volume{Size: 7, Quota: 3}, map[int]string{}) }},
		{b.snapshotting(1), func(x *told) { x.added(x.places[0].Volume, maps.Clone(x.places[0].m)) }},
		{b.deleting(3), func(x *told) { x.places[2].State = api.VolumeDying }},
		{b.resizing(1, 19), func(x *told) { x.places[0].Size = 19 }},
		{b.writing(1, 5, fill(5), false), func(x *told) { x.places[0].put(5, fill(5)) }},
		{b.writing(3, 18, fill(18), false), func(x *told) { x.places[2].put(18, fill(18)) }},
		{b.unmapping(1, 8, 1), func(x *told) { x.places[0].drop(8) }},
		{b.unmapping(1, 19, 1), func(*told) {}}, // of a block that has no page
	}
}

// TestCommitRefused: a call whose transaction is refused changes nothing, behind a crash neither; and may be done later on.
func TestCommitRefused(t *testing.T) {
	for _, s := range allUnwritten() {
		for i := range laid(t, 64).allDone() {
			b := inUse(t)
			x := b.allDone()[i]
			s.ready(b)
			was := b.state()
			b.is(x.name+", where "+s.what, x.call(), s.want)
			b.stays(was)
			if s.mend == nil {
				continue
			}
			s.mend(b)
			b.sound()
			b.syncs()
			b.d.Crash([]int{1, 1, 1, 1, 1, 1, 1})
			b.opens()
			b.stays(was)
			b.is(x.name, x.call(), api.OK)
			x.then(&b.told)
			b.sound()
			b.readsAll()
		}
	}
}

// TestCommitGoesOn: where the log has no room, a call makes some.
func TestCommitGoesOn(t *testing.T) {
	for i := range laid(t, 64).allDone() {
		b := inUse(t)
		x := b.allDone()[i]
		fillsLog(b)
		b.is(x.name, x.call(), api.OK)
		x.then(&b.told)
		b.sound()
		b.readsAll()
	}
}

// TestSynced: a catalogue's call that was answered OK is not lost; one whose flush fails is done all the same. Blocks are synced only where that is asked for.
func TestSynced(t *testing.T) {
	for i := range laid(t, 64).allDone() {
		for _, flushed := range []bool{true, false} {
			b := inUse(t)
			b.syncs()
			x, was, before := b.allDone()[i], b.state(), b.told.kept()
			catalogue := i < 4
			want := api.OK
			if !flushed {
				fails(api.FailFlush, 1)(b)
				if catalogue {
					want = api.ErrFlush
				}
			}
			b.is(x.name, x.call(), want)
			if !flushed && !catalogue {
				b.is("Flush", b.d.Flush(), api.ErrFlush) // it was not asked
			}
			x.then(&b.told)
			b.sound()
			b.readsAll()
			b.d.Crash(nil)
			b.opens()
			if !flushed || !catalogue {
				b.told = before
				b.stays(was)
			}
			b.sound()
			b.readsAll()
		}
	}
}

// TestWriteSynced: a Write with sync, its flush that fails, and one that is refused ahead of it.
func TestWriteSynced(t *testing.T) {
	for count := 1; count <= 8; count++ {
		b := inUse(t)
		b.writes(1, 3, blocks(30, count), true)
		was := b.state()
		b.d.Crash(nil)
		b.opens()
		b.stays(was)
		b.readsAll()
		fails(api.FailFlush, 1)(b)
		many, e := b.v.Write(1, 8, blocks(60, count), true)
		if many != count || e != api.ErrFlush {
			t.Errorf("Write = %d, %v", many, e)
		}
		before := b.told.kept()
		for i := range count {
			b.at(1).put(8+i, fill(60+i))
		}
		b.sound()
		b.readsAll()
		b.d.Crash(nil)
		b.opens()
		b.told = before
		b.stays(was)

		b.creates(20, count)
		b.writes(4, 0, blocks(1, count), false)
		fails(api.FailFlush, 1)(b)
		if many, e := b.v.Write(4, count-1, blocks(2, 2), true); many != 1 || e != api.ErrQuota {
			t.Errorf("Write = %d, %v", many, e)
		}
		b.at(4).put(count-1, fill(2))
		b.is("Flush", b.d.Flush(), api.ErrFlush) // it was not asked
		b.sound()
		b.readsAll()
	}
}

// writesSome writes blocks of which some are refused: so many are done, and no others.
func (b *bench) writesSome(id, at int, data []byte, many int, want api.Errno) {
	b.Helper()
	got, e := b.v.Write(id, at, data, true)
	if got != many || e != want {
		b.Fatalf("Write(%d, %d, %d bytes) = %d, %v, not %d, %v", id, at, len(data), got, e, many, want)
	}
	for i := range many {
		b.at(id).put(at+i, data[64*i:64*i+64])
	}
	b.sound()
	b.readsAll()
}

// unmapsSome unmaps blocks of which some are refused.
func (b *bench) unmapsSome(id, at, count, many int, want api.Errno) {
	b.Helper()
	got, e := b.v.Unmap(id, at, count)
	if got != many || e != want {
		b.Fatalf("Unmap(%d, %d, %d) = %d, %v, not %d, %v", id, at, count, got, e, many, want)
	}
	for i := range many {
		b.at(id).drop(at + i)
	}
}

// TestQuota: blocks that have a page already are done at the quota, too; the first that has none is the end.
func TestQuota(t *testing.T) {
	for quota := range 9 {
		b := laid(t, 64)
		b.creates(30, quota)
		b.writesSome(1, 3, blocks(1, 8), quota, []api.Errno{api.ErrQuota, api.OK}[quota/8])
		b.writesSome(1, 3, blocks(20, 8), quota, []api.Errno{api.ErrQuota, api.OK}[quota/8])
		b.writesSome(1, 20, fill(1), 0, api.ErrQuota)
		if quota < 2 {
			continue
		}
		b.unmaps(1, 4, 1)
		b.writesSome(1, 2, blocks(40, 8), min(quota, 2), api.ErrQuota) // 2 is mapped instead of 4
		b.snapshots(1)
		b.writesSome(2, 2, blocks(50, 3), 2, api.ErrQuota) // it has a quota of its own
		b.unmaps(1, 2, 8)
		b.unmaps(1, 10, 1)
		b.writesSome(2, 2, blocks(60, 3), 2, api.ErrQuota)
		b.writesSome(1, 0, blocks(70, 8), quota, []api.Errno{api.ErrQuota, api.OK}[quota/8])
	}
}

// fills has the test hold pages till so many are free.
func (b *bench) fills(free int) {
	b.Helper()
	for b.p.Free() > free {
		b.begins()
		n, e := b.p.Fresh(dataPage(fill(1)))
		b.is("Fresh", e, api.OK)
		b.held[n]++
		b.commits()
	}
}

// TestRoom: with few pages free the first block that has no room is the end.
func TestRoom(t *testing.T) {
	wrote, unmapped := map[int]bool{}, map[int]bool{}
	for free := range 30 {
		b := laid(t, 120)
		b.creates(200, 200)
		for i := range 30 {
			b.writes(1, 5*i, fill(i), false)
		}
		b.snapshots(1)
		b.fills(free)
		many, e := b.v.Write(1, 33, blocks(1, 8), true)
		if (e == api.OK) != (many == 8) || e != api.OK && e != api.ErrSpace || free >= 25 && e != api.OK && many == 0 {
			t.Errorf("with %d pages free: Write = %d, %v", free, many, e)
		}
		wrote[many] = true
		for i := range many {
			b.at(1).put(33+i, fill(1+i))
		}
		b.sound()
		b.readsAll()
		for at := 128; at > 0; at -= 8 {
			many, e := b.v.Unmap(2, at, 8)
			if (e == api.OK) != (many == 8) || e != api.OK && e != api.ErrSpace {
				t.Errorf("with %d pages free: Unmap = %d, %v", free, many, e)
			}
			unmapped[many] = true
			for i := range many {
				b.at(2).drop(at + i)
			}
			b.sound()
		}
		b.readsAll()
	}
	if len(wrote) < 5 || len(unmapped) < 4 {
		t.Errorf("%v were written, %v unmapped", wrote, unmapped)
	}
}

// TestWritesFail: the disk does not write one of the blocks.
func TestWritesFail(t *testing.T) {
	for n := 1; n <= 8; n++ {
		for _, s := range []struct {
			kind int
			ends bool
		}{{api.FailWrite, false}, {0, true}} {
			b := inUse(t)
			b.checkpoint() // so that no record stands at the log's end
			ready := func() {
				if s.ends {
					b.is("Cut", b.d.Cut(n-1), api.OK)
				} else {
					fails(s.kind, n)(b)
				}
			}
			ready()
			b.writesSome(1, 5, blocks(80, 8), n-1, api.ErrWrite)
			b.is("Cut", b.d.Cut(1<<30), api.OK)
			b.syncs()
			b.checkpoint()
			ready()
			b.unmapsSome(1, 4, 8, n-1, api.ErrWrite)
			b.is("Cut", b.d.Cut(1<<30), api.OK)
			b.sound()
			b.readsAll()
			b.d.Crash([]int{1, 1, 1, 1, 1, 1, 1, 1, 1, 1})
			b.opens()
		}
	}
}

// leafOf is the page of the leaf in which a block would be.
func (b *bench) leafOf(n, block int) int {
	b.Helper()
	x := b.node(n)
	if x.Leaf {
		return n
	}
	at := 0
	for i, key := range x.Keys {
		if key <= block {
			at = i
		}
	}
	return b.leafOf(x.Vals[at], block)
}

// spoils lays other bytes where a page lies, as long as something is asked.
func (b *bench) spoils(page int, call func()) {
	b.Helper()
	sector, _ := b.d.Read(2+page, 1)
	b.is("Write", b.d.Write(2+page, bytes.Repeat([]byte{7}, 256), true), api.OK)
	call()
	b.is("Write", b.d.Write(2+page, sector, true), api.OK)
}

// TestNodeSpoilt: a node that can't be read is the end of what is done; blocks ahead of it are.
func TestNodeSpoilt(t *testing.T) {
	b := laid(t, 120)
	b.creates(100, 100)
	for i := range 80 {
		b.writes(1, (i*7)%80, fill(i), false)
	}
	b.checkpoint()
	root, end := b.v.Catalogue().Volumes[0].Root, 41 // with which another leaf begins
	for b.leafOf(root, end) == b.leafOf(root, end-1) {
		end++
	}
	leaf := b.leafOf(root, end)
	b.spoils(leaf, func() {
		b.is("Read", b.reading(1, end-2, 8).call(), api.ErrSum)
		was := b.v.Catalogue()
		b.is("Resize", b.v.Resize(1, end), api.ErrSum)
		b.is("Resize", b.v.Resize(1, 79), api.ErrInUse)
		if !sameCatalogue(was, b.v.Catalogue()) {
			t.Error("the catalogue was changed")
		}
		if many, e := b.v.Write(1, end-2, blocks(90, 8), true); many != 2 || e != api.ErrSum {
			t.Errorf("Write = %d, %v", many, e)
		}
	})
	b.at(1).put(end-2, fill(90))
	b.at(1).put(end-1, fill(91))
	b.sound()
	b.readsAll()
	b.checkpoint()
	b.spoils(leaf, func() {
		many, e := b.v.Unmap(1, end-1, 8)
		if many > 1 || e != api.ErrSum { // the leaf may be needed for the one beside it, too
			t.Errorf("Unmap = %d, %v", many, e)
		}
		for i := range many {
			b.at(1).drop(end - 1 + i)
		}
	})
	b.sound()
	b.readsAll()
}

// TestReadFails: each read of a Read, of a Resize and of a block's change that the disk does not do is told, and nothing is changed.
func TestReadFails(t *testing.T) {
	b := laid(t, 120)
	b.creates(100, 100)
	for i := range 40 {
		b.writes(1, i, fill(i), false)
	}
	b.checkpoint()
	was := b.state()
	for _, a := range []attempt{b.reading(1, 10, 8), b.resizing(1, 90), b.writing(1, 10, fill(1), false), b.unmapping(1, 20, 1)} {
		reads := 0
		for n := 1; ; n++ {
			fails(api.FailRead, n)(b)
			e := a.call()
			if e == api.OK {
				break
			}
			b.is(a.name, e, api.ErrRead)
			b.stays(was)
			reads++
		}
		if reads < 2 {
			t.Errorf("%s: %d reads", a.name, reads)
		}
		for e := api.OK; e == api.OK; { // the one that is still to fail
			_, e = b.d.Read(0, 1)
		}
		b.checkpoint()
		was = b.state()
	}
	b.at(1).put(10, fill(1))
	b.at(1).drop(20)
	b.at(1).Size = 90
	b.sound()
	b.readsAll()
}

// TestSnapshotRefused: a root that can't be referred to once more, and one that is none; nothing is changed.
func TestSnapshotRefused(t *testing.T) {
	b := inUse(t)
	root := b.v.Catalogue().Volumes[0].Root
	b.begins()
	for b.p.Count(root) < 1000 {
		b.is("Ref", b.p.Ref(root), api.OK)
		b.held[root]++
	}
	b.commits()
	b.refused(b.snapshotting(1), api.ErrCount)
	b.snapshots(3)
	b.sound()
	for _, root := range []int{1, 120, 129, 130, 1023} {
		c := b.v.Catalogue()
		c.Volumes[5] = api.Volume{ID: 999, State: api.VolumeLive, Size: 9, Quota: 9, Root: root, Mapped: 1}
		c.Next = 1000
		b.begins()
		b.is("Change", b.v.Change(c), api.OK)
		b.refused(b.snapshotting(999), api.ErrRange)
	}
}
