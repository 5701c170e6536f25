package sweep_test

import (
	"slices"
	"testing"

	"polder/api"
	"polder/sweep"
	"polder/tree"
)

// ends does steps till there is nothing to do: how many they were. Behind each of them all counts are right, and live volumes read as they did.
func (b *bench) ends() int {
	b.Helper()
	many := 0
	for b.steps() {
		many++
		if many > 16*b.pages+16 {
			b.Fatalf("behind %d steps there is still something to do", many)
		}
		b.sound()
		b.readsAll()
	}
	b.swept()
	return many
}

// expected is how many steps are needed: of each dying volume one, and of each tree that nobody else has one for each of its nodes but the root, and one for each leaf.
func (b *bench) expected() int {
	b.Helper()
	x, many := b.state(), 0
	for _, v := range x.catalogue.Volumes {
		if v.State != api.VolumeDying {
			continue
		}
		many++
		nodes := map[int]bool{}
		x.refers(v.Root, make([]int, len(x.pages)), nodes)
		for n := range nodes {
			if x.node(n).Leaf {
				many++
			}
			if n != v.Root {
				many++
			}
		}
	}
	return many
}

// TestEndsAlone: a volume of any number of blocks that has its pages alone.
func TestEndsAlone(t *testing.T) {
	for _, many := range []int{0, 1, 2, 7, 8, 9, 10, 16, 17, 33, 64, 65, 100, 150} {
		for _, by := range []int{1, 37} { // rising, and mixed
			b := laid(t, 300)
			b.creates(200)
			for i := range many {
				b.writes(1, i*by%151, i, 1)
			}
			b.deletes(1)
			want := b.expected()
			if got := b.ends(); got != want {
				t.Errorf("%d blocks: %d steps, not %d", many, got, want)
			}
			b.rests()
			if b.p.Free() != 300-firstPages(300) {
				t.Errorf("%d pages are free", b.p.Free())
			}
		}
	}
}

// TestEndsShared: snapshots that share all, some or none of their nodes, of which any ones are deleted.
func TestEndsShared(t *testing.T) {
	for _, changed := range []int{0, 1, 5, 40} {
		for which := 1; which < 8; which++ {
			b := laid(t, 250)
			b.creates(50)
			b.writes(1, 0, 1, 40)
			b.snapshots(1)
			b.writes(2, 40-changed, 100, changed)
			b.snapshots(2)
			for at := range min(8, changed) {
				b.unmaps(3, at, 1)
			}
			b.writes(1, 0, 200, changed)
			for id := 1; id <= 3; id++ {
				if which&(1<<(id-1)) != 0 {
					b.deletes(id)
				}
			}
			b.ends()
			b.rests()
			for id := range 4 {
				if b.told[id] != nil {
					b.deletes(id)
				}
			}
			b.ends()
			if b.p.Free() != 250-firstPages(250) {
				t.Errorf("%d pages are free", b.p.Free())
			}
		}
	}
}

// TestEndsChain: a chain of snapshots, each changed a little, of which any ones are deleted, and then the others.
func TestEndsChain(t *testing.T) {
	for which := range 1 << 8 {
		if which%11 != 0 && which != 1<<8-1 {
			continue
		}
		b := laid(t, 240)
		b.creates(30)
		b.writes(1, 0, 1, 24)
		for id := 1; id < 8; id++ {
			b.snapshots(id)
			b.writes(id+1, 3*id, 50*id, 4)
			b.unmaps(id, 2*id, 2)
		}
		for _, chosen := range []bool{true, false} {
			for id := 1; id <= 8; id++ {
				if (which&(1<<(id-1)) != 0) == chosen {
					b.deletes(id)
				}
			}
			b.ends()
			b.readsAll()
		}
		if b.p.Free() != 240-firstPages(240) {
			t.Errorf("%d pages are free", b.p.Free())
		}
	}
}

// TestEndsFull: with few pages free, and with none.
func TestEndsFull(t *testing.T) {
	for free := range 4 {
		b := laid(t, 120)
		b.creates(40)
		b.writes(1, 0, 1, 40)
		b.snapshots(1)
		b.writes(2, 3, 50, 3)
		b.creates(40)
		b.writes(3, 0, 90, 8)
		b.deletes(2, 3)
		b.fills(free)
		b.ends()
		b.rests()
		b.fills(free)
		b.deletes(1)
		b.ends()
		b.begins()
		for n := range b.held {
			b.is("Unref", b.p.Unref(n), api.OK)
		}
		b.commits()
		if b.p.Free() != 120-firstPages(120) {
			t.Errorf("%d pages are free", b.p.Free())
		}
	}
}

// TestEndsFilled: volumes have all pages, those that die and those that live.
func TestEndsFilled(t *testing.T) {
	b := laid(t, 80)
	b.creates(60)
	b.creates(60)
	at := [3]int{}
	for room := true; room; {
		room = false
		for id := 1; id <= 2; id++ {
			data := blocks(at[id], 1)
			if many, _ := b.v.Write(id, at[id], data, false); many == 1 {
				copy(b.told[id][64*at[id]:], data)
				at[id]++
				room = true
			}
		}
	}
	if b.p.Free() > 1 {
		t.Fatalf("%d pages are free", b.p.Free())
	}
	b.deletes(1)
	b.ends()
	b.writes(2, at[2], 3, 8)
	b.readsAll()
}

// TestEndsSmall: in as few pages as there may be.
func TestEndsSmall(t *testing.T) {
	for many := range 13 {
		b := laid(t, 16)
		b.creates(20)
		for i := range many {
			data := blocks(i, 1)
			if done, _ := b.v.Write(1, i, data, false); done == 1 {
				copy(b.told[1][64*i:], data)
			}
		}
		b.snapshots(1)
		b.deletes(1)
		b.ends()
		b.deletes(2)
		b.ends()
		if b.p.Free() != 14 {
			t.Errorf("%d pages are free", b.p.Free())
		}
	}
}

// tall has the first volume be one of as many levels as a pool has pages for: its blocks share their pages, as no write has it.
func (b *bench) tall() {
	b.Helper()
	val := 0
	for key := 0; b.p.Free() > 30; key++ {
		b.begins()
		if val == 0 || b.p.Count(val) > 900 {
			n, e := b.p.Fresh(dataPage())
			b.is("Fresh", e, api.OK)
			val = n
		} else {
			b.is("Ref", b.p.Ref(val), api.OK)
		}
		c := b.v.Catalogue()
		x := &c.Volumes[0]
		root, e := tree.Insert(b.p, x.Root, key, val)
		b.is("Insert", e, api.OK)
		x.Root, x.Mapped = root, min(api.MaxPages, x.Mapped+1)
		b.is("Change", b.v.Change(c), api.OK)
	}
}

// TestEndsTall: trees of as many levels as there may be, alone and with a snapshot that shares most of them.
func TestEndsTall(t *testing.T) {
	b := laid(t, 1024)
	b.creates(api.MaxBlocks)
	b.told[1] = nil // the volume is looked at by its tree alone
	b.tall()
	if _, e := b.v.Snapshot(1); e != api.OK {
		t.Fatal(e)
	}
	if _, e := b.v.Write(2, 500, blocks(7, 3), false); e != api.OK {
		t.Fatal(e)
	}
	for id := 2; id > 0; id-- {
		was := b.state()
		keeps := was.references(nil, func(v api.Volume) bool { return v.ID != id })
		b.is("Delete", b.v.Delete(id), api.OK)
		many, highest := 0, 0
		for more := true; more; many++ {
			var e api.Errno
			if many%100 == 0 {
				more = b.steps()
				b.sound()
			} else if more, e = sweep.Step(b.v); e != api.OK || many > 16*1024+16 {
				t.Fatalf("Step %d = %v, %v", many, more, e)
			}
			highest = max(highest, len(b.v.Catalogue().Stack))
		}
		if highest > 8 || id == 1 && (highest < 6 || many < 900) {
			t.Errorf("%d steps, a stack of %d", many, highest)
		}
		b.swept()
		if now := b.state(); !slices.Equal(now.counts, keeps) {
			t.Errorf("behind volume %d not just those pages are in use that the others have", id)
		}
	}
	if b.p.Free() != 1024-firstPages(1024) {
		t.Errorf("%d pages are free", b.p.Free())
	}
}

// TestEndsMost: as many volumes as may be, of a thousand pages, one behind the other and all at once.
func TestEndsMost(t *testing.T) {
	for _, once := range []bool{true, false} {
		b := laid(t, 1024)
		b.creates(700)
		b.writes(1, 0, 1, 640)
		for id := range 7 {
			b.snapshots(id + 1)
			b.writes(id+2, 100*id, 700+id, 3)
		}
		for id := 1; id <= 8; id++ {
			b.deletes(id)
			if id == 8 || !once {
				many := 0
				for more := true; more; many++ {
					var e api.Errno
					if more, e = sweep.Step(b.v); e != api.OK || many > 16*1024+16 {
						t.Fatalf("Step %d = %v, %v", many, more, e)
					}
					if many%100 == 0 {
						b.sound()
						b.readsAll()
					}
				}
				b.swept()
				b.readsAll()
			}
		}
		if b.p.Free() != 1024-firstPages(1024) {
			t.Errorf("%d pages are free", b.p.Free())
		}
	}
}
