package thin_test

import (
	"bytes"
	"math/rand/v2"
	"testing"

	"polder/api"
	"polder/thin"
)

// failing has each read of a call fail, in turn; it tells how many there are.
func (b *bench) failing(call func() api.Errno) int {
	b.Helper()
	for n := 1; ; n++ {
		b.is("Fail", b.d.Fail(api.FailRead, n), api.OK)
		e := call()
		if e == api.OK {
			for e == api.OK { // the one that is still to fail
				_, e = b.d.Read(0, 1)
			}
			return n - 1
		}
		b.is("a call", e, api.ErrRead)
	}
}

// grown is a volume of so many blocks, by tens, with another one that shares what it has but for one block.
func grown(t *testing.T, many int) (*bench, *kept, *kept) {
	t.Helper()
	b := laid(t, 400)
	x := b.volume(1000, 400)
	for i := range many {
		b.writes(x, 13*i%many*10, fill(i))
	}
	y := b.snapshot(x)
	b.writes(y, 77, fill(77))
	return b, x, y
}

// TestReadErrors: each of a call's reads that the disk does not do is told; behind the Abort all is as it was.
func TestReadErrors(t *testing.T) {
	b, x, y := grown(t, 50)
	b.checkpoint()
	was := b.state()
	for _, z := range []*kept{x, y} {
		for _, block := range []int{0, 10, 77, 78, 250, 490, 999} {
			for _, a := range b.each(z.Volume, block) {
				b.begins()
				reads := b.failing(func() api.Errno {
					e := a.call()
					if e != api.OK {
						b.p.Abort()
						b.stays(was)
						b.begins()
					}
					return e
				})
				b.p.Abort()
				b.stays(was)
				if want := len(b.wayTo(z.Root, block)); reads < want {
					t.Errorf("%s: %d reads, of %d levels", a.name, reads, want)
				}
			}
		}
	}
	b.readsAll(x)
	b.readsAll(y)
}

// TestWriteErrors: a disk that does not write is told by the transaction's Commit: nothing is done.
func TestWriteErrors(t *testing.T) {
	b, x, _ := grown(t, 20)
	was := b.state()
	b.begins()
	b.is("Fail", b.d.Fail(api.FailWrite, 1), api.OK)
	for _, a := range b.each(x.Volume, 10) {
		b.is(a.name, a.call(), api.OK)
	}
	b.is("Commit", b.p.Commit(), api.ErrWrite)
	b.stays(was)
	b.checkpoint() // the log takes nothing more till then
	b.sound()
	b.readsAll(x)
}

// spoils lays other bytes where a page lies, as long as something is asked.
func (b *bench) spoils(page int, bytes []byte, call func()) {
	b.Helper()
	sector, _ := b.d.Read(2+page, 1)
	b.is("Write", b.d.Write(2+page, bytes, true), api.OK)
	call()
	b.is("Write", b.d.Write(2+page, sector, true), api.OK)
}

// wayTo is the pages of the nodes to a block, the root first.
func (b *bench) wayTo(n, block int) []int {
	b.Helper()
	x := b.node(n)
	if x.Leaf {
		return []int{n}
	}
	at := 0
	for i, key := range x.Keys {
		if key <= block {
			at = i
		}
	}
	return append([]int{n}, b.wayTo(x.Vals[at], block)...)
}

// TestSpoilt: a page that was spoilt, or was never written, is told by each call that has to look at it: a node by all, a block's by Read alone.
func TestSpoilt(t *testing.T) {
	b, x, y := grown(t, 50)
	b.checkpoint()
	was := b.state()
	for _, block := range []int{0, 250, 490} {
		page := b.pagesOf(x)[block]
		other, _ := b.d.Read(2, 1)
		for _, s := range []struct {
			bytes []byte
			want  api.Errno
		}{{bytes.Repeat([]byte{7}, 256), api.ErrSum}, {make([]byte, 256), api.ErrImage}, {other, api.ErrSum}} {
			for _, n := range b.wayTo(x.Root, block) {
				b.spoils(n, s.bytes, func() {
					for _, a := range append(b.each(x.Volume, block), b.each(x.Volume, block+1)...) {
						b.begins()
						b.is(a.name, a.call(), s.want)
						b.p.Abort()
					}
				})
			}
			b.spoils(page, s.bytes, func() {
				for _, z := range []*kept{x, y} {
					b.is("Read", b.reading(z.Volume, block).call(), s.want)
					for _, a := range append(b.each(z.Volume, block)[1:], b.each(z.Volume, block+1)...) {
						b.begins()
						b.is(a.name, a.call(), api.OK)
						b.p.Abort()
					}
				}
			})
		}
	}
	b.stays(was)
	b.sound()
}

// TestNoData: a block's page that is no data page is told by Read; it may be written over, and unmapped.
func TestNoData(t *testing.T) {
	b := laid(t, 100)
	var bad []api.Page
	for _, at := range []int{64, 65, 127, 150, 238, 239} {
		x := dataPage(fill(1))
		x.Body[at] = 1
		y := dataPage(noughts)
		y.Body[at] = 128
		bad = append(bad, x, y)
	}
	for _, kind := range []int{api.KindCatalogue, api.KindCounts, api.KindInner, api.KindLeaf} {
		for _, data := range [][]byte{noughts, fill(1)} {
			x := dataPage(data)
			x.Kind = kind
			bad = append(bad, x)
		}
	}
	for _, page := range append(bad, nodePage(leaf()), nodePage(leaf(3, 9))) {
		x := b.volume(10, 10)
		n := b.holds(page)
		x.Root, x.Mapped = b.holds(nodePage(leaf(4, n, 5, b.holds(dataPage(fill(5)))))), 2
		b.unchanged(b.reading(x.Volume, 4), api.ErrImage)
		b.unchanged(b.reading(x.Volume, 5), api.OK)
		b.refused(b.writing(x.Volume, 4, fill(2)), api.OK)
		b.refused(b.unmapping(x.Volume, 4), api.OK)

		clear(b.held) // now the volume has them
		b.does(func() {
			x.m[4], x.m[5] = "", string(fill(5))
			b.put(x, 4, fill(2))
		})
		b.sound()
		b.readsAll(x)
		b.unmaps(x, 4, 5)
	}
}

// TestNodes: a block whose page is a node's, one of the counts', or none at all.
func TestNodes(t *testing.T) {
	b := laid(t, 100)
	x := b.volume(10, 10)
	for i := range 9 {
		b.writes(x, i, fill(i))
	}
	was := b.state()
	for _, s := range []struct {
		page                int
		read, write, unmaps api.Errno
	}{
		{x.Root, api.ErrImage, api.OK, api.OK},
		{b.node(x.Root).Vals[1], api.ErrImage, api.OK, api.OK},
		{1, api.ErrImage, api.ErrRange, api.ErrRange},
		{90, api.ErrImage, api.ErrRange, api.ErrRange}, // free, and never written
		{100, api.ErrRange, api.ErrRange, api.ErrRange},
		{1023, api.ErrRange, api.ErrRange, api.ErrRange},
	} {
		v := api.Volume{ID: 9, State: 1, Size: 10, Quota: 10, Root: b.holds(nodePage(leaf(4, s.page))), Mapped: 1}
		b.unchanged(b.reading(v, 4), s.read)
		b.refused(b.writing(v, 4, fill(2)), s.write)
		b.refused(b.unmapping(v, 4), s.unmaps)
		b.is("Read", b.reading(v, 5).call(), api.OK)
	}
	for n := range b.held {
		b.does(func() { b.is("Unref", b.p.Unref(n), api.OK) })
	}
	clear(b.held)
	if b.p.Free() != was.free {
		t.Errorf("%d pages are free, not %d", b.p.Free(), was.free)
	}
	b.sound()
	b.readsAll(x)
}

// TestNoTree: roots that are no node's, the counts' pages and the data's among them, and pages that there are not.
func TestNoTree(t *testing.T) {
	b := laid(t, 100)
	x := b.volume(10, 10)
	b.writes(x, 4, fill(4))
	n := b.holds(nodePage(api.Node{Keys: []int{0, 5}, Vals: []int{x.Root, b.pagesOf(x)[4]}}))
	ring := b.holds(nodePage(api.Node{Keys: []int{0, 5}, Vals: []int{n + 1, n + 1}})) // the page n + 1 itself
	for _, s := range []struct {
		root, block int
		want        api.Errno
	}{{1, 4, api.ErrImage}, {b.pagesOf(x)[4], 4, api.ErrImage}, {90, 4, api.ErrImage}, {100, 4, api.ErrRange}, {1023, 4, api.ErrRange},
		{n, 6, api.ErrImage}, {ring, 4, api.ErrImage}, {ring, 6, api.ErrImage}} {
		for _, a := range b.each(changed(x.Volume, 4, s.root), s.block) {
			b.refused(a, s.want)
		}
	}
	b.refused(b.reading(changed(x.Volume, 4, n), 4), api.OK) // on whose way nothing is wrong
}

// TestWild: whatever lies in a pool's pages, each call ends, with nothing beside an error, and an Abort takes back what it did.
func TestWild(t *testing.T) {
	r := rand.New(rand.NewPCG(14, 99))
	told := map[string]map[api.Errno]int{"Read": {}, "Write": {}, "Unmap": {}}
	for range 100 {
		b := laid(t, 40)
		b.begins()
		for range 30 {
			x := nodePage(wildNode(r))
			switch r.IntN(8) {
			case 0:
				x = dataPage(fill(r.IntN(99)))
			case 1:
				x.Kind = 1 + r.IntN(5)
			case 2:
				x.Body[r.IntN(240)] ^= 1 << r.IntN(8)
			}
			_, e := b.p.Fresh(x)
			b.is("Fresh", e, api.OK)
		}
		for range 40 {
			b.p.Ref(2 + r.IntN(30))
		}
		b.commits()
		was := b.state()
		for range 100 {
			v := api.Volume{ID: 1, State: 1 + r.IntN(2), Size: 1 + r.IntN(12), Quota: r.IntN(4), Root: r.IntN(44), Mapped: r.IntN(4)}
			for _, a := range b.each(v, r.IntN(14)-1) {
				b.begins()
				told[a.name][a.call()]++
				b.p.Abort()
			}
		}
		b.stays(was)
	}
	if len(told["Read"]) != 4 || len(told["Write"]) < 5 || len(told["Unmap"]) < 4 {
		t.Errorf("only %v was told", told)
	}
}

// wildNode is one that may be, whose Vals may be anything.
func wildNode(r *rand.Rand) api.Node {
	n := api.Node{Leaf: r.IntN(3) > 0}
	for key := range 12 {
		if r.IntN(2) == 0 && len(n.Keys) < 8 {
			n.Keys, n.Vals = append(n.Keys, key), append(n.Vals, 1+r.IntN(36))
		}
	}
	n.Leaf = n.Leaf || len(n.Keys) == 0
	return n
}

// TestLogBusy: a transaction at the store itself is none of the pool's.
func TestLogBusy(t *testing.T) {
	b := laid(t, 64)
	x := b.volume(10, 10)
	b.writes(x, 4, fill(4))
	b.is("Begin", b.p.Store().Begin(), api.OK)
	b.is("Write", b.writing(x.Volume, 4, fill(1)).call(), api.ErrIdle)
	b.is("Unmap", b.unmapping(x.Volume, 4).call(), api.ErrIdle)
	b.p.Store().Abort()
	b.readsAll(x)
}

// TestMemory: what Read tells is the caller's own, and what was handed to Write may be written to.
func TestMemory(t *testing.T) {
	b := laid(t, 64)
	x := b.volume(10, 10)
	whole := append(append([]byte{71, 72}, fill(5)...), 73, 74, 75)
	handed := whole[2:66]
	was := bytes.Clone(whole)
	b.does(func() {
		b.put(x, 3, handed)
		if !bytes.Equal(whole, was) {
			t.Errorf("what was handed in became %v", whole)
		}
		clear(whole)
		x.m[3] = string(was[2:66])
		b.readsAll(x)
	})
	b.sound()
	for _, settle := range []func(){func() {}, b.checkpoint, b.opens, func() { b.begins(); b.p.Abort() }} {
		settle()
		for block := range 10 {
			got, e := thin.Read(b.p, x.Volume, block)
			b.is("Read", e, api.OK)
			again, _ := thin.Read(b.p, x.Volume, block)
			got = got[:cap(got)] // the spare room, too
			for i := range got {
				got[i] = 99
			}
			if !bytes.Equal(again, x.read(block)) {
				t.Fatalf("block %d is now %v", block, again)
			}
			b.reads(x, block)
		}
		b.readsAll(x)
	}
	b.sound()
}
