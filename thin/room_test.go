package thin_test

import (
	"maps"
	"slices"
	"testing"

	"polder/api"
	"polder/thin"
	"polder/tree"
)

// tall is a volume in the greatest pool there may be, of blocks that rise by tens, whose pages are a few that stand at many places: so its tree has as many levels as there may be.
func tall(t *testing.T, levels int) (*bench, *kept) {
	t.Helper()
	b := laid(t, 1024)
	x := b.volume(1<<20, 1<<20)
	page := 0
	for block := 0; x.Root == 0 || len(b.wayTo(x.Root, block)) < levels; block += 10 {
		b.begins()
		e := api.OK
		if page == 0 || b.p.Count(page) >= 800 {
			page, e = b.p.Fresh(dataPage(fill(1)))
		} else {
			e = b.p.Ref(page)
		}
		b.is("Fresh or Ref", e, api.OK)
		root, e := tree.Insert(b.p, x.Root, block, page)
		b.is("Insert", e, api.OK)
		b.commits()
		x.Root, x.m[block] = root, string(fill(1))
		x.Mapped = min(1024, len(x.m))
	}
	return b, x
}

// roomy asks for changes of a block, each in a transaction that may be done, while 25 pages are free; nothing of them stays.
func (b *bench) roomy(x *kept, blocks ...int) {
	b.Helper()
	b.fills(25)
	for _, block := range blocks {
		for _, a := range b.each(x.Volume, block) {
			b.begins()
			b.is(a.name, a.call(), api.OK)
			b.p.Abort()
		}
	}
}

// TestRoom: while 25 pages are free there is room for each Write and Unmap, in trees of any number of levels, whose root is shared or not.
func TestRoom(t *testing.T) {
	for levels := range 7 {
		b, x := tall(t, levels)
		blocks := slices.Sorted(maps.Keys(x.m))
		if len(blocks) == 0 {
			b.roomy(x, 0, 9, 1<<20-1)
			continue
		}
		last := blocks[len(blocks)-1]
		some := []int{0, 1, last, last + 10, last / 20 * 10, last/20*10 + 5}
		b.roomy(x, append(some, blocks...)...)
		b.does(func() { b.is("Ref", b.p.Ref(x.Root), api.OK) })
		b.roomy(x, append(some, blocks...)...)
	}
}

// TestRoomCommits: so there is for the whole transaction.
func TestRoomCommits(t *testing.T) {
	for levels := 1; levels < 7; levels++ {
		b, x := tall(t, levels)
		x.Mapped = 500 // more blocks are mapped than there may be pages
		blocks := slices.Sorted(maps.Keys(x.m))
		last := blocks[len(blocks)-1]
		for i, block := range []int{0, 5, last, last + 10, last / 20 * 10, last/20*10 + 5} {
			if x.Root != 0 {
				b.does(func() { b.is("Ref", b.p.Ref(x.Root), api.OK) })
			}
			b.fills(25)
			b.begins()
			v, e := thin.Write(b.p, x.Volume, block, fill(i))
			b.is("Write", e, api.OK)
			b.commits()
			x.Volume, x.m[block] = v, string(fill(i))
			b.reads(x, block)
			b.fills(25)
			b.begins()
			v, e = thin.Unmap(b.p, x.Volume, block)
			b.is("Unmap", e, api.OK)
			b.commits()
			x.Volume = v
			delete(x.m, block)
			b.reads(x, block)
		}
	}
}

// TestSpace: with fewer pages free a change is done, or refused by ErrSpace; behind the Abort all is as it was. With none free no Write is done.
func TestSpace(t *testing.T) {
	b, x, y := grown(t, 60)
	told := map[string]map[api.Errno]int{"Read": {}, "Write": {}, "Unmap": {}}
	for free := range 26 {
		b.fills(free)
		for _, z := range []*kept{x, y} {
			for _, block := range []int{0, 10, 77, 78, 300, 590, 999} {
				for _, a := range b.each(z.Volume, block) {
					was := b.state()
					b.begins()
					e := a.call()
					b.p.Abort()
					b.stays(was)
					if e != api.OK && e != api.ErrSpace || e != api.OK && (free == 25 || a.name == "Read") || e == api.OK && free == 0 && a.name == "Write" {
						t.Errorf("%s of block %d, with %d pages free: %v", a.name, block, free, e)
					}
					told[a.name][e]++
				}
			}
		}
	}
	if len(told["Write"]) != 2 || len(told["Unmap"]) != 2 {
		t.Errorf("only %v was told", told)
	}
	b.sound()
	b.fills(25)
	b.writes(x, 300, fill(9))
	b.readsAll(x)
	b.readsAll(y)
}

// TestFull: a pool is written full, and unmapped again.
func TestFull(t *testing.T) {
	b := laid(t, 40)
	x := b.volume(100, 100)
	for round := range 3 {
		full := 0
		for block := range 100 {
			if e := b.tries(x, (block*7+round)%100, fill(block)); e != api.OK {
				full++
			}
		}
		if full < 50 || len(x.m) < 25 {
			t.Errorf("%d blocks were refused, %d are mapped", full, len(x.m))
		}
		b.readsAll(x)
		b.unmaps(x, slices.Sorted(maps.Keys(x.m))...)
		b.empty()
	}
}

// TestTooBig: where the transaction has no room; what is only read needs none.
func TestTooBig(t *testing.T) {
	b, x, _ := grown(t, 20)
	was := b.state()
	for _, s := range []struct {
		a    attempt
		want api.Errno
	}{{b.reading(x.Volume, 10), api.OK}, {b.writing(x.Volume, 10, fill(1)), api.ErrTooBig}, {b.writing(x.Volume, 15, fill(1)), api.ErrTooBig},
		{b.unmapping(x.Volume, 10), api.ErrTooBig}, {b.unmapping(x.Volume, 15), api.OK}} {
		b.begins()
		for range 40 {
			_, e := b.p.Fresh(dataPage(noughts))
			b.is("Fresh", e, api.OK)
		}
		b.is(s.a.name, s.a.call(), s.want)
		b.p.Abort()
		b.stays(was)
	}
}

// TestCount: a node whose page can't be referred to once more.
func TestCount(t *testing.T) {
	b, x, y := grown(t, 20)
	full := b.pagesOf(x)[10]
	b.does(func() {
		for b.p.Count(full) < 1000 {
			b.is("Ref", b.p.Ref(full), api.OK)
			b.held[full]++
		}
	})
	z := b.snapshot(y)
	b.refused(b.writing(z.Volume, 10, fill(1)), api.ErrCount)
	b.refused(b.unmapping(z.Volume, 10), api.ErrCount)
	b.reads(z, 10)
	b.sound()
}
