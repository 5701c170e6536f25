package super_test

import (
	"bytes"
	"slices"
	"testing"

	"polder/api"
	"polder/super"
)

// gens are some numbers of superblocks, even and odd ones.
func gens() []int {
	return []int{0, 1, 2, 3, 4, 7, 255, 256, 1<<31 - 1, 1 << 31, 1 << 32, 1<<40 - 2, 1<<40 - 1, 1 << 40}
}

// TestSave: the sector Gen % 2 is what codec writes, to stay, and no other sector is changed.
func TestSave(t *testing.T) {
	for _, gen := range gens() {
		b := laid(t, 100)
		b.lay(0, bytes.Repeat([]byte{9}, 100*256))
		want := b.all()
		s := api.Super{Gen: gen, Epoch: 1 << 40, Pages: 17, Start: 20, Len: 79, Head: 78, Seq: gen / 2}
		copy(want[gen%2*256:], b.sector(s))
		b.saves(s, api.OK)
		if !bytes.Equal(b.all(), want) {
			t.Errorf("Save of Gen %d: the disk is not as it should be", gen)
		}
		b.d.Crash(nil)
		if !bytes.Equal(b.all(), want) {
			t.Errorf("Save of Gen %d: not so behind a crash", gen)
		}
		b.loads(s)
	}
}

// TestSaveEdges: what is saved, and what is refused, is as Check tells of the disk's size.
func TestSaveEdges(t *testing.T) {
	for _, c := range slices.Concat(anyNumber(), placed()) {
		if c.sectors < 1 || c.sectors > api.MaxSectors {
			continue
		}
		b := laid(t, c.sectors)
		if c.ok {
			b.saves(c.s, api.OK)
			b.loads(c.s)
			continue
		}
		b.leaves("a Save that is refused", func() { b.saves(c.s, api.ErrArg) })
	}
}

// TestSaveRefused: without a disk, without a table, and of what may not be there, nothing is asked of the disk.
func TestSaveRefused(t *testing.T) {
	b := laid(t, 100)
	b.saves(sample(1), api.OK)
	b.is("Fail", b.d.Fail(api.FailWrite, 1), api.OK)
	b.leaves("a Save that is refused", func() {
		b.is("Save without a disk", super.Save(nil, b.table, sample(2)), api.ErrArg)
		b.is("Save without a table", super.Save(b.d, nil, sample(2)), api.ErrArg)
		b.is("Save without both", super.Save(nil, nil, sample(2)), api.ErrArg)
		b.is("Save of none", super.Save(nil, nil, api.Super{}), api.ErrArg)
		b.saves(api.Super{}, api.ErrArg)
		b.saves(sample(-1), api.ErrArg)
		b.saves(sample(-2), api.ErrArg)
		b.saves(sample(1<<40+1), api.ErrArg)
		b.saves(with(func(s *api.Super) { s.Seq = -1 }), api.ErrArg)
		b.saves(with(func(s *api.Super) { s.Epoch = 1<<40 + 1 }), api.ErrArg)
		b.saves(with(func(s *api.Super) { s.Len = 83 }), api.ErrArg)
		b.loads(sample(1))
	})
	b.saves(sample(2), api.ErrWrite)
}

// TestSaveAsks: a Save is one write, and neither a flush nor a read.
func TestSaveAsks(t *testing.T) {
	b := laid(t, 100)
	b.is("Fail", b.d.Fail(api.FailWrite, 3), api.OK)
	b.is("Fail", b.d.Fail(api.FailFlush, 1), api.OK)
	b.is("Fail", b.d.Fail(api.FailRead, 1), api.OK)
	b.saves(sample(1), api.OK)
	b.saves(sample(2), api.OK)
	b.saves(sample(3), api.ErrWrite)
	b.saves(sample(3), api.OK)
	b.is("Flush", b.d.Flush(), api.ErrFlush)
	b.loadFails(api.ErrRead)
	b.loads(sample(3))
}

// TestSaveLeavesOthersDirty: what others wrote is no more durable behind a Save; what was written to its own sector is gone.
func TestSaveLeavesOthersDirty(t *testing.T) {
	b := laid(t, 100)
	b.is("Write", b.d.Write(0, bytes.Repeat([]byte{7}, 3*256), false), api.OK)
	b.saves(sample(3), api.OK)
	if l := b.d.Dirty(); !slices.Equal(l, []int{0, 2}) {
		t.Errorf("Dirty = %v", l)
	}
	b.d.Crash(nil)
	b.loads(sample(3))
	if data := b.all(); !bytes.Equal(data[:256], make([]byte, 256)) || !bytes.Equal(data[512:], make([]byte, 98*256)) {
		t.Error("sectors that are another's persisted")
	}
}

// TestSaveFails: the disk's error, and what was there stays.
func TestSaveFails(t *testing.T) {
	for _, gen := range []int{3, 4, 5} {
		b := laid(t, 100)
		b.saves(sample(1), api.OK)
		b.saves(sample(2), api.OK)
		b.is("Fail", b.d.Fail(api.FailWrite, 1), api.OK)
		b.leaves("a Save that fails", func() { b.saves(sample(gen), api.ErrWrite) })
		b.loads(sample(2))
		b.is("Cut", b.d.Cut(0), api.OK)
		b.leaves("a Save that fails", func() { b.saves(sample(gen), api.ErrWrite) })
		b.saves(sample(-gen), api.ErrArg)
		b.loads(sample(2))
		b.d.Crash([]int{1, 1, 1})
		b.loads(sample(2))
		b.saves(sample(gen), api.OK)
		b.loads(sample(gen))
	}
}

// TestSaveAnyOrder: Save asks nothing of what is there, so a smaller Gen is saved, too.
func TestSaveAnyOrder(t *testing.T) {
	b := laid(t, 100)
	b.saves(sample(6), api.OK)
	b.saves(sample(3), api.OK)
	b.loads(sample(6))
	b.saves(sample(4), api.OK)
	b.loads(sample(4))
	b.saves(sample(2), api.OK)
	b.loads(sample(3))
	b.saves(sample(2), api.OK)
	b.saves(sample(1), api.OK)
	b.loads(sample(2))
}
