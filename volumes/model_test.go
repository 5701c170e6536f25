package volumes_test

import (
	"bytes"
	"math/rand/v2"
	"testing"

	"polder/api"
	"polder/ranges"
)

// collects does one step of giving back what dying volumes had: false, if there is nothing to do.
func (b *bench) collects() bool {
	b.Helper()
	c := b.v.Catalogue()
	b.begins()
	if len(c.Stack) == 0 {
		at := b.dying()
		if at < 0 {
			b.p.Abort()
			return false
		}
		if root := c.Volumes[at].Root; root != 0 {
			c.Stack = []int{root}
		}
		c.Volumes[at], b.places[at] = api.Volume{}, place{}
	} else {
		stack, e := ranges.Fell(b.p, c.Stack)
		b.is("Fell", e, api.OK)
		c.Stack = stack
	}
	b.is("Change", b.v.Change(c), api.OK)
	b.stack = c.Stack
	b.sound()
	return true
}

// dying is the place of a dying volume; -1: there is none.
func (b *bench) dying() int {
	for i, x := range b.places {
		if x.State == api.VolumeDying {
			return i
		}
	}
	return -1
}

// live are the IDs of the live volumes.
func (x *told) live() []int {
	var ids []int
	for _, v := range x.places {
		if v.State == api.VolumeLive {
			ids = append(ids, v.ID)
		}
	}
	return ids
}

// vacant tells how a call is refused that asks for one more volume.
func (x *told) vacant() api.Errno {
	for _, v := range x.places {
		if v.State == api.VolumeNone {
			return api.OK
		}
	}
	return api.ErrVolumes
}

// spans tells how blocks of a volume are refused.
func (x *place) spans(at, count int) api.Errno {
	switch {
	case count < 1 || count > 8:
		return api.ErrArg
	case at < 0 || at+count > x.Size:
		return api.ErrBlock
	}
	return api.OK
}

// inUse tells whether a block of these or above has a page.
func (x *place) inUse(from int) bool {
	for block := range x.m {
		if block >= from {
			return true
		}
	}
	return false
}

// asks asks for a call, in which two numbers may be anything; it tells what was told.
func (b *bench) asks(r *rand.Rand, id, i int) api.Errno {
	b.Helper()
	size := 1 + r.IntN(40)
	switch k := r.IntN(100); {
	case k < 6:
		if e := b.vacant(); e != api.OK {
			b.refused(b.creating(size, 30), e)
			return e
		}
		b.creates(size, r.IntN(40))
	case k < 12:
		if e := b.vacant(); e != api.OK {
			b.refused(b.snapshotting(id), e)
			return e
		}
		b.snapshots(id)
	case k < 17 && len(b.live()) > 2:
		b.deletes(id)
	case k < 22:
		if b.at(id).inUse(size) {
			b.refused(b.resizing(id, size), api.ErrInUse)
			return api.ErrInUse
		}
		b.resizes(id, size)
	case k < 25:
		b.syncs()
		b.opens()
	default:
		return b.asksBlocks(r, id, i)
	}
	return api.OK
}

// asksBlocks asks for blocks of a volume.
func (b *bench) asksBlocks(r *rand.Rand, id, i int) api.Errno {
	b.Helper()
	at, count, x := r.IntN(42)-1, r.IntN(10), b.at(id)
	if r.IntN(2) == 0 {
		count = 1 + r.IntN(min(8, x.Size))
		at = r.IntN(x.Size - count + 1)
	}
	data, e := blocks(i, count), x.spans(at, count)
	switch k := r.IntN(10); {
	case e != api.OK:
		b.refused(b.reading(id, at, count), e)
		b.refused(b.writing(id, at, data, k < 5), e)
		b.refused(b.unmapping(id, at, count), e)
	case k < 6:
		room, many := x.Quota-x.Mapped, 0
		for ; many < count; many++ {
			if _, had := x.m[at+many]; !had {
				room--
			}
			if room < 0 {
				e = api.ErrQuota
				break
			}
		}
		b.writesSome(id, at, data, many, e)
	case k < 8:
		b.unmaps(id, at, count)
	default:
		b.reads(id, at, count)
	}
	return e
}

// TestMaps: whatever is asked, in any order, volumes are maps, each of its own.
func TestMaps(t *testing.T) {
	for seed := range uint64(3) {
		r := rand.New(rand.NewPCG(15, seed))
		b := laid(t, 500)
		b.creates(40, 40)
		heard := map[api.Errno]int{}
		for i := range 1200 {
			ids := b.live()
			heard[b.asks(r, ids[r.IntN(len(ids))], i)]++
			if r.IntN(3) == 0 {
				b.collects()
			}
			if i%20 == 0 {
				b.readsAll()
			}
		}
		b.readsAll()
		for _, e := range []api.Errno{api.OK, api.ErrArg, api.ErrBlock, api.ErrQuota, api.ErrInUse, api.ErrVolumes} {
			if heard[e] < 8 {
				t.Errorf("seed %d: %v was told", seed, heard)
			}
		}
		b.deletes(b.live()...)
		for b.collects() {
		}
		if b.p.Free() != 500-b.firstPages() {
			t.Errorf("%d pages are free", b.p.Free())
		}
	}
}

// readWhole are all blocks of a volume.
func (b *bench) readWhole(id int) []byte {
	b.Helper()
	var data []byte
	for at := range b.at(id).Size {
		block, e := b.v.Read(id, at, 1)
		if e != api.OK {
			b.Fatalf("Read = %v", e)
		}
		data = append(data, block...)
	}
	return data
}

// TestIsolated: what is done to one volume is read in no other one: its origin, its snapshots, theirs, and those that have nothing of it.
func TestIsolated(t *testing.T) {
	b := laid(t, 400)
	b.creates(40, 40)
	for i := range 4 {
		b.writes(1, 8*i, blocks(8*i, 8), false)
	}
	b.snapshots(1)
	b.snapshots(1)
	b.snapshots(2)
	b.creates(40, 40)
	b.writes(5, 3, blocks(100, 8), false)
	b.snapshots(5)
	for i, call := range []func(id int){
		func(id int) { b.writes(id, 6, blocks(200+id, 8), false) },
		func(id int) { b.unmaps(id, 9, 8) },
		func(id int) { b.writes(id, 30, blocks(300+id, 8), true) },
		func(id int) { b.unmaps(id, 34, 4); b.resizes(id, 34+id%2) },
		func(id int) { b.writes(id, 0, blocks(400+id, 8), false); b.unmaps(id, 0, 8) },
		func(id int) { b.snapshots(id) },
		func(id int) { b.deletes(id) },
	} {
		for _, id := range []int{4, 1, 5, 2, 6, 3} {
			others := map[int][]byte{}
			for _, other := range b.live() {
				if other != id || i == 5 { // a snapshot doesn't change what it is one of, either
					others[other] = b.readWhole(other)
				}
			}
			call(id)
			for other, was := range others {
				if !bytes.Equal(b.readWhole(other), was) {
					t.Fatalf("volume %d was changed by a call of %d", other, id)
				}
			}
			if i == 5 {
				last := b.next - 1
				if !bytes.Equal(b.readWhole(last), others[id]) {
					t.Fatalf("the snapshot %d is another one than %d was", last, id)
				}
				b.deletes(last)
				for b.collects() {
				}
			}
		}
	}
	for b.collects() {
	}
	if b.p.Free() != 400-b.firstPages() {
		t.Errorf("%d pages are free", b.p.Free())
	}
}

// TestChain: a snapshot of a snapshot, and so on; each reads as its origin did when it was made.
func TestChain(t *testing.T) {
	b := laid(t, 400)
	b.creates(30, 30)
	var were [][]byte
	for id := 1; id <= 7; id++ {
		b.writes(id, 3*id, blocks(10*id, 4), false)
		b.unmaps(id, 2*id, 1)
		b.snapshots(id)
		were = append(were, b.readWhole(id))
		b.writes(id, 0, blocks(500+id, 8), false)
	}
	for i, was := range were[:6] {
		if got := b.readWhole(i + 2); bytes.Equal(got, was) {
			t.Errorf("volume %d was not changed", i+2)
		}
	}
	if !bytes.Equal(b.readWhole(8), were[6]) {
		t.Error("the last snapshot is not as its origin was")
	}
	b.readsAll()
}
