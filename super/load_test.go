package super_test

import (
	"bytes"
	"math/rand/v2"
	"testing"

	"polder/api"
	"polder/codec"
	"polder/crc"
	"polder/disk"
	"polder/super"
)

// TestLoadArguments: without a disk, without a table, and on a disk of one sector, nothing is read.
func TestLoadArguments(t *testing.T) {
	b := laid(t, 100)
	b.saves(sample(1), api.OK)
	small := laid(t, 1)
	for _, c := range []struct {
		what  string
		d     *disk.Disk
		table *crc.Table
	}{
		{"nothing", nil, nil},
		{"no disk", nil, b.table},
		{"no table", b.d, nil},
		{"one sector", small.d, small.table},
		{"one sector and no table", small.d, nil},
	} {
		if c.d != nil {
			b.is("Fail", c.d.Fail(api.FailRead, 1), api.OK)
		}
		if s, e := super.Load(c.d, c.table); s != (api.Super{}) || e != api.ErrArg {
			t.Errorf("Load of %s = %+v, %v", c.what, s, e)
		}
		if c.d != nil {
			if _, e := c.d.Read(0, 1); e != api.ErrRead {
				t.Errorf("Load of %s reads", c.what)
			}
		}
	}
	b.loads(sample(1))
}

// TestLoadSmall: disks of two sectors and more are read; of those on which no superblock may be none is loaded.
func TestLoadSmall(t *testing.T) {
	for sectors := 2; sectors <= 90; sectors++ {
		b := laid(t, sectors)
		b.loadFails(api.ErrImage)
		b.lay(1, b.sector(sample(1)))
		b.loadsAny(sample(1), sectors >= 82)
		b.lay(0, b.sector(sample(2)))
		b.loadsAny(sample(2), sectors >= 82)
		b.is("Fail", b.d.Fail(api.FailRead, 2), api.OK)
		b.loadFails(api.ErrRead)
	}
}

// TestLoadReads: it is two reads, whatever is found, and a failure of either is ErrRead, even where the other one would do.
func TestLoadReads(t *testing.T) {
	noughts := make([]byte, 256)
	for _, there := range []int{0, 1, 2, 3} {
		for n := 1; n <= 6; n++ {
			b := laid(t, 100)
			first, second := noughts, noughts
			if there&1 > 0 {
				first = b.sector(sample(2))
			}
			if there&2 > 0 {
				second = b.sector(sample(1))
			}
			b.lay(0, append(bytes.Clone(first), second...))
			newest := sample(2)
			if there&1 == 0 {
				newest = sample(1)
			}
			b.is("Fail", b.d.Fail(api.FailRead, n), api.OK)
			for i := range 4 {
				if i == (n-1)/2 {
					b.loadFails(api.ErrRead)
				} else {
					b.loadsAny(newest, there > 0)
				}
			}
		}
	}
}

// TestLoadAsks: it writes and flushes nothing, goes on a disk that is cut, and tells the same again.
func TestLoadAsks(t *testing.T) {
	b := laid(t, 100)
	b.saves(sample(1), api.OK)
	b.is("Write", b.d.Write(0, b.sector(sample(2)), false), api.OK)
	b.is("Fail", b.d.Fail(api.FailWrite, 1), api.OK)
	b.is("Fail", b.d.Fail(api.FailFlush, 1), api.OK)
	b.leaves("Load", func() {
		b.loads(sample(2))
		b.loads(sample(2))
	})
	b.saves(sample(3), api.ErrWrite)
	b.is("Flush", b.d.Flush(), api.ErrFlush)
	b.is("Cut", b.d.Cut(0), api.OK)
	b.leaves("Load", func() { b.loads(sample(2)) })
	b.d.Crash(nil)
	b.loads(sample(1))
}

// TestLoadGreater: of two that are sound the one with the greater Gen, in whichever sector that is.
func TestLoadGreater(t *testing.T) {
	for _, one := range gens() {
		for _, other := range gens() {
			if one%2 == other%2 {
				continue
			}
			b := laid(t, 100)
			s, u := sample(one), sample(other)
			s.Epoch, s.Seq, u.Start = 9, 9, 30
			b.lay(one%2, b.sector(s))
			b.loads(s)
			b.lay(other%2, b.sector(u))
			if one > other {
				b.loads(s)
			} else {
				b.loads(u)
			}
		}
	}
}

// TestLoadPlace: a superblock in the sector that is not its own is none, even if its Gen is greater.
func TestLoadPlace(t *testing.T) {
	for _, gen := range gens() {
		b := laid(t, 100)
		b.lay(1-gen%2, b.sector(sample(gen)))
		b.loadFails(api.ErrImage)
		for at := 2; at < 100; at++ {
			b.lay(at, b.sector(sample(gen)))
		}
		b.loadFails(api.ErrImage)
	}
	for gen := range 6 {
		b := laid(t, 100)
		for _, own := range []int{0, 1} {
			b.lay(own, b.sector(sample(own)))
			b.lay(1-own, b.sector(sample(gen*2+own)))
			b.loads(sample(own))
		}
	}
}

// TestLoadSize: one that may not be on a disk of this size is none there, even if its Gen is greater.
func TestLoadSize(t *testing.T) {
	for _, c := range placed() {
		b := laid(t, 100)
		data, e := codec.PutSuper(b.table, c.s)
		if e != api.OK {
			continue
		}
		ok := super.Check(c.s, 100) == api.OK
		b.lay(c.s.Gen%2, data)
		b.loadsAny(c.s, ok)
		b.saves(sample(c.s.Gen-1), api.OK)
		if ok {
			b.loads(c.s)
		} else {
			b.loads(sample(c.s.Gen - 1))
		}
	}
}

// TestLoadOtherRecords: a sector with another record, or a sum that is right alone, is none.
func TestLoadOtherRecords(t *testing.T) {
	b := laid(t, 100)
	b.saves(sample(1), api.OK)
	x := api.Image{Page: api.Page{Kind: api.KindData, Body: make([]byte, 240)}}
	page, _ := codec.PutPage(b.table, x)
	image, _ := codec.PutImage(b.table, 2, 2, x)
	head, _ := codec.PutHead(b.table, api.Head{Epoch: 2, Seq: 2, Pages: []int{0}})
	for i, data := range [][]byte{page, image, head, make([]byte, 256), bytes.Repeat([]byte{255}, 256)} {
		if len(data) != 256 {
			t.Fatalf("%d: no sector", i)
		}
		b.lay(0, data)
		b.loads(sample(1))
		spoilt := laid(t, 100)
		spoilt.lay(0, append(data, data...))
		spoilt.loadFails(api.ErrImage)
	}
}

// TestLoadSpoilt: with any bit turned over a superblock gives way to the other one, the newest and the older one; both spoilt, none is left.
func TestLoadSpoilt(t *testing.T) {
	b := laid(t, 100)
	b.saves(sample(1), api.OK)
	b.saves(sample(2), api.OK)
	newest, older := b.sector(sample(2)), b.sector(sample(1))
	for i := range 256 * 8 {
		spoilt := bytes.Clone(newest)
		spoilt[i/8] ^= 1 << (i % 8)
		b.lay(0, spoilt)
		b.loads(sample(1))
		other := bytes.Clone(older)
		other[255-i/8] ^= 1 << (i % 8)
		b.lay(1, other)
		b.loadFails(api.ErrImage)
		b.lay(0, newest)
		b.loads(sample(2))
		b.lay(1, older)
	}
	b.loads(sample(2))
}

// TestLoadSpoiltForNow: what spoilt one and did not persist spoils it no longer behind a crash.
func TestLoadSpoiltForNow(t *testing.T) {
	b := laid(t, 100)
	b.saves(sample(1), api.OK)
	b.saves(sample(2), api.OK)
	b.is("Write", b.d.Write(0, make([]byte, 256), false), api.OK)
	b.loads(sample(1))
	b.d.Crash(nil)
	b.loads(sample(2))
	b.is("Write", b.d.Write(0, make([]byte, 512), false), api.OK)
	b.loadFails(api.ErrImage)
	b.d.Crash([]int{1, 0})
	b.loads(sample(1))
}

// disturb has something else done to a disk, or by it, that no superblock hangs on.
func (b bench) disturb(random *rand.Rand) {
	switch random.IntN(5) {
	case 0:
		b.d.Write(2+random.IntN(98), bytes.Repeat([]byte{byte(random.Uint32())}, 256), random.IntN(2) == 0)
	case 1:
		b.d.Fail(api.FailWrite, 1+random.IntN(2))
	case 2:
		b.d.Cut(random.IntN(4))
	case 3:
		b.d.Flush()
	case 4:
		b.d.Crash([]int{random.IntN(9) - 4, random.IntN(9) - 4, random.IntN(9) - 4})
	}
}

// TestLastSaved: what was saved with a greater Gen than all ahead is what is loaded, behind any crash, and what was not saved is not.
func TestLastSaved(t *testing.T) {
	for seed := range uint64(100) {
		random := rand.New(rand.NewPCG(seed, 4))
		b := laid(t, 100)
		var last api.Super
		saved := false
		for range 60 {
			next := api.Super{Gen: last.Gen + 1 + random.IntN(4), Epoch: random.IntN(9), Pages: 16 + random.IntN(3), Start: 20 + random.IntN(9),
				Len: 64 + random.IntN(5), Head: random.IntN(64), Seq: random.IntN(1 << 40)}
			if e := super.Save(b.d, b.table, next); e == api.OK {
				last, saved = next, true
			} else if e != api.ErrWrite {
				t.Fatalf("seed %d: Save(%+v) = %v", seed, next, e)
			}
			b.loadsAny(last, saved)
			for range random.IntN(3) {
				b.disturb(random)
				b.loadsAny(last, saved)
			}
		}
		b.d.Crash(nil)
		b.loadsAny(last, saved)
	}
}

// TestGivesWay: behind saves of rising Gens the one that is spoilt gives way to the last one of the other sector, and the next Save mends it.
func TestGivesWay(t *testing.T) {
	b := laid(t, 100)
	b.saves(sample(0), api.OK)
	for gen := 1; gen < 50; gen++ {
		b.saves(sample(gen), api.OK)
		b.loads(sample(gen))
		b.lay(gen%2, bytes.Repeat([]byte{byte(gen)}, 256))
		b.loads(sample(gen - 1))
		b.lay(gen%2, b.sector(sample(gen)))
		b.loads(sample(gen))
		b.lay((gen-1)%2, bytes.Repeat([]byte{byte(gen)}, 256))
		b.d.Crash(nil)
		b.loads(sample(gen))
	}
}
