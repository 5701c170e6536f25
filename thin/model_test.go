package thin_test

import (
	"maps"
	"math/rand/v2"
	"slices"
	"testing"

	"polder/api"
)

// TestMap: whatever is written and unmapped, in any order, each block reads as it was written last, or as noughts, and Mapped is how many have a page.
func TestMap(t *testing.T) {
	for seed, s := range []struct{ pages, size, quota int }{{64, 8, 8}, {64, 30, 20}, {300, 100, 60}, {1024, 1 << 20, 400}, {16, 40, 20}} {
		b := laid(t, s.pages)
		r := rand.New(rand.NewPCG(14, uint64(seed)))
		x := b.volume(s.size, s.quota)
		told := map[api.Errno]int{}
		for i := range 1500 {
			block := r.IntN(min(s.size, 2*s.quota))
			if s.size == 1<<20 {
				block = block * 1309 % s.size
			}
			_, had := x.m[block]
			switch k := r.IntN(100); {
			case k < 40 || k < 70 && i%300 < 200:
				if !had && x.Mapped >= s.quota {
					b.refused(b.writing(x.Volume, block, fill(i)), api.ErrQuota)
					told[api.ErrQuota]++
					continue
				}
				told[b.tries(x, block, fill(i))]++
			case k < 95:
				b.unmaps(x, block)
				told[api.OK]++
			case k < 97:
				b.is("Sync", b.p.Sync(), api.OK)
				b.opens()
			default:
				b.checkpoint()
			}
			b.reads(x, block)
			if i%50 == 0 {
				b.readsAll(x)
			}
		}
		b.readsAll(x)
		if len(x.m) < 3 || told[api.OK] < 400 || s.pages == 16 && told[api.ErrSpace] < 50 || s.pages > 16 && told[api.ErrSpace] > 0 {
			t.Errorf("%v: %d blocks; %v was told", s, len(x.m), told)
		}
		b.unmaps(x, slices.Sorted(maps.Keys(x.m))...)
		if x.Root != 0 || x.Mapped != 0 {
			t.Errorf("of nothing: %v", x.Volume)
		}
		b.empty()
	}
}

// tries writes a block in a transaction of its own; where that is refused for want of room the transaction is aborted, and all is as it was.
func (b *bench) tries(x *kept, block int, data []byte) api.Errno {
	b.Helper()
	was, free := b.state(), b.p.Free()
	b.begins()
	if e := b.writing(x.Volume, block, data).call(); e != api.OK {
		b.p.Abort()
		b.stays(was)
		if free >= 25 || e != api.ErrSpace {
			b.Fatalf("Write = %v, with %d pages free", e, free)
		}
		return e
	}
	b.p.Abort()
	b.writes(x, block, data)
	return api.OK
}

// TestShared: of two volumes that had one root each reads on as it did, whatever is done to the other one.
func TestShared(t *testing.T) {
	for _, many := range []int{0, 1, 8, 9, 40, 150} {
		for _, turned := range []bool{false, true} {
			b := laid(t, 700)
			x := b.volume(2000, 2000)
			for i := range many {
				b.writes(x, 13*i%many*10, fill(i))
			}
			y := b.snapshot(x)
			if turned {
				x, y = y, x
			}
			for _, block := range []int{0, 10 * (many / 2), 10*(many/2) + 5, 10*many + 1, 1999} {
				b.untouched(x, func() { b.writes(y, block, fill(1000+block)) })
			}
			for i := range 12 {
				b.untouched(y, func() { b.writes(x, 100+7*i, fill(2000+i)) })
			}
			b.readsAll(x)
			b.readsAll(y)
			for i := range many + 1 {
				b.untouched(x, func() { b.unmaps(y, 10*i) })
			}
			b.readsAll(x)
			for i := range many + 1 {
				b.untouched(y, func() { b.unmaps(x, 10*i) })
			}
			b.readsAll(x)
			b.readsAll(y)
		}
	}
}

// untouched does something to one volume, by which no page of another one is to change.
func (b *bench) untouched(x *kept, call func()) {
	b.Helper()
	was, seen := b.state(), map[int]bool{}
	b.refers(x.Root, make([]int, b.pages), seen)
	for _, n := range b.pagesOf(x) {
		seen[n] = true
	}
	v := x.Volume
	call()
	for n := range seen {
		if page, e := b.p.Read(n); e != api.OK || !samePage(page, was.pages[n]) {
			b.Fatalf("page %d of another volume was changed", n)
		}
	}
	if x.Volume != v {
		b.Fatalf("%v is %v", v, x.Volume)
	}
	for block := range x.m {
		b.reads(x, block)
	}
}

// TestForest: several volumes, each another one's snapshot or empty at first, changed in any order.
func TestForest(t *testing.T) {
	for seed, blocks := range []int{20, 60, 120} {
		b := laid(t, 1024)
		r := rand.New(rand.NewPCG(14, uint64(70+seed)))
		b.volume(blocks, blocks)
		shared := 0
		for i := range 900 {
			x := b.volumes[r.IntN(len(b.volumes))]
			block := r.IntN(blocks)
			switch k := r.IntN(100); {
			case k < 60:
				b.writes(x, block, fill(i))
			case k < 80:
				b.unmaps(x, block)
			case len(b.volumes) < 5:
				b.snapshot(x)
			case k > 92:
				b.unmaps(x, slices.Sorted(maps.Keys(x.m))...)
				b.volumes = slices.DeleteFunc(b.volumes, func(y *kept) bool { return y == x })
			}
			for n := range b.pages {
				if n >= b.firstPages() && b.p.Count(n) > 1 {
					shared++
				}
			}
			if i%20 == 0 {
				for _, y := range b.volumes {
					b.reads(y, each(0, blocks-1)...)
				}
			}
		}
		if shared < 1000 {
			t.Errorf("%d blocks: %d pages were shared", blocks, shared)
		}
		for _, x := range b.volumes {
			b.unmaps(x, each(0, blocks-1)...)
		}
		b.empty()
	}
}
