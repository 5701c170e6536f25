package ranges_test

import (
	"maps"
	"slices"
	"testing"

	"polder/api"
	"polder/ranges"
	"polder/tree"
)

// cut asks for a Cut, in a transaction that is under way, and tells how many keys it took.
func (b *bench) cut(x *kept, from, to, many int) int {
	b.Helper()
	gone := scanned(x.m, from, to, many)
	root, got, e := ranges.Cut(b.p, x.root, from, to, many)
	if got != len(gone) || e != api.OK || got == 0 && root != x.root {
		b.Fatalf("Cut(%d, %d, %d, %d) = %d, %d, %v, not of %v", x.root, from, to, many, root, got, e, gone)
	}
	x.root = root
	for _, entry := range gone {
		delete(x.m, entry.Key)
	}
	return got
}

// byHand is what a Cut comes to by Deletes, in a transaction that is aborted behind them: the root, and the pool.
func (b *bench) byHand(x *kept, from, to, many int) (int, state) {
	b.Helper()
	root := x.root
	b.begins()
	defer b.p.Abort()
	for _, entry := range scanned(x.m, from, to, many) {
		got, there, e := tree.Delete(b.p, root, entry.Key)
		if !there || e != api.OK {
			b.Fatalf("Delete = %v, %v", there, e)
		}
		root = got
	}
	return root, b.state()
}

// TestCut: of any range the first key goes, or the first two, and nothing else; just as Deletes have it.
func TestCut(t *testing.T) {
	for i, many := range []int{0, 1, 2, 8, 9, 17, 40, 110} {
		b := laid(t, 300)
		keys := mixed(many)
		if i%2 == 1 {
			keys = each(10, many, 10)
		}
		x := b.plants(keys...)
		was := b.state()
		l := bounds(x, 1+many/5)
		for _, from := range l {
			for _, to := range l {
				for limit := 1; limit <= 2; limit++ {
					y := kept{x.root, maps.Clone(x.m)}
					root, behind := b.byHand(x, from, to, limit)
					b.begins()
					b.cut(x, from, to, limit)
					if x.root != root {
						t.Errorf("the root is %d, not %d", x.root, root)
					}
					b.stays(behind)
					b.sound()
					b.p.Abort()
					*x = y
				}
			}
		}
		b.stays(was)
	}
}

// TestCutMany: how many may be taken away at once.
func TestCutMany(t *testing.T) {
	b := laid(t, 100)
	x := b.plants(mixed(20)...)
	b.checkpoint()
	was := b.state()
	b.begins()
	for _, many := range []int{least, -2, -1, 0, 3, 4, 8, 1 << 32, 1<<32 + 1, most} {
		for _, root := range []int{least, -1, 0, 1, x.root, 99, 100, most} {
			for _, to := range []int{-1, 0, 10, 999} {
				if got, cut, e := ranges.Cut(b.p, root, 0, to, many); got != 0 || cut != 0 || e != api.ErrArg {
					t.Errorf("Cut(%d, 0, %d, %d) = %d, %d, %v", root, to, many, got, cut, e)
				}
			}
		}
	}
	b.stays(was)
	if len(b.p.Dirty()) > 0 {
		t.Errorf("%v is dirty", b.p.Dirty())
	}
	b.p.Abort()
}

// TestCutOn: again and again, till the range is empty, and till the tree is.
func TestCutOn(t *testing.T) {
	for _, many := range []int{5, 9, 40, 200} {
		for limit := 1; limit <= 2; limit++ {
			b := laid(t, 400)
			x := b.plants(mixed(many)...)
			for _, to := range []int{many*5 + 3, maxBlocks} {
				for from := to / 3; from >= 0; from -= max(to/3, 1) {
					for got := 1; got > 0; {
						levels := b.levels(x.root)
						b.checkpoint()
						b.does(func() { got = b.cut(x, from, to, limit) })
						if nodes := len(b.p.Dirty()); nodes > limit*(3*levels+2)+b.firstPages() || got == 0 && nodes > 0 {
							t.Errorf("%d keys: %d pages were written", got, nodes)
						}
						b.sound()
					}
					b.scans(x, from, to, most)
				}
			}
			if x.root != 0 || len(x.m) > 0 {
				t.Errorf("the root is %d", x.root)
			}
			b.empty()
		}
	}
}

// TestCutShared: what another tree has, too, stays with that one; of a page that both have one reference goes.
func TestCutShared(t *testing.T) {
	b := laid(t, 400)
	x := b.plants(mixed(60)...)
	y := b.copies(x)
	for i, z := range []*kept{x, y, x, y, y, x} {
		for range 6 {
			b.does(func() { b.cut(z, 70*i, 600, 1+i%2) })
			b.sound()
		}
	}
	for len(y.m) > 0 {
		b.does(func() { b.cut(y, least, most, 2) })
		b.sound()
	}
	b.scans(x, 0, 999, 99)
}

// TestCutLeaves: two keys that stand in one leaf, and in two.
func TestCutLeaves(t *testing.T) {
	b := laid(t, 200)
	x := b.plants(each(10, 60, 10)...)
	for _, n := range b.nodes(x.root) {
		node := b.node(n)
		for i := 0; node.Leaf && i < len(node.Keys); i++ {
			y := kept{x.root, maps.Clone(x.m)}
			b.begins()
			if got := b.cut(x, node.Keys[i], maxBlocks, 2); got != 2 && node.Keys[i] < 600 {
				t.Errorf("%d keys from %d on", got, node.Keys[i])
			}
			b.sound()
			b.p.Abort()
			*x = y
		}
	}
}

// TestClone: a root is referred to once more, and nothing else changes.
func TestClone(t *testing.T) {
	b := laid(t, 200)
	x := b.plants(mixed(40)...)
	b.checkpoint()
	b.begins()
	if root, e := ranges.Clone(b.p, 0); root != 0 || e != api.OK {
		t.Errorf("Clone(0) = %d, %v", root, e)
	}
	b.sound()
	for many := 2; many <= 1000; many++ {
		if root, e := ranges.Clone(b.p, x.root); root != x.root || e != api.OK {
			t.Fatalf("Clone = %d, %v", root, e)
		}
		if b.p.Count(x.root) != many {
			t.Fatalf("the count is %d, not %d", b.p.Count(x.root), many)
		}
	}
	b.held[x.root] += 999
	b.sound()
	if len(b.p.Dirty()) > 0 {
		t.Errorf("%v is dirty", b.p.Dirty())
	}
	was := b.state()
	if root, e := ranges.Clone(b.p, x.root); root != 0 || e != api.ErrCount {
		t.Errorf("Clone = %d, %v", root, e)
	}
	for _, root := range []int{least, -1, 1, 2, 199, 200, most} {
		if b.p.Count(root) > 1 || root == 2 { // 2 is a page of counts
			continue
		}
		if got, e := ranges.Clone(b.p, root); got != 0 || e != api.ErrRange {
			t.Errorf("Clone(%d) = %d, %v", root, got, e)
		}
	}
	b.stays(was)
	b.p.Abort()
}

// TestCloneKeeps: of a tree and its clone, and a clone's clone, each has what it was told, whatever is inserted into, deleted from, cut away or felled of the others.
func TestCloneKeeps(t *testing.T) {
	for _, many := range []int{1, 8, 9, 40, 120} {
		for turn := range 3 {
			b := laid(t, 700)
			x := b.plants(mixed(many)...)
			y := b.copies(x)
			z := b.copies(y)
			l := []*kept{x, y, z}
			a, c, d := l[turn], l[(turn+1)%3], l[(turn+2)%3]
			for i := range 10 {
				b.does(func() { b.put(a, 5+37*i, b.fresh(data(3))) })
				b.does(func() { b.put(c, 10+10*i, b.fresh(data(4))) })
				b.does(func() { b.drop(c, 10*many-20*i) })
				b.does(func() { b.cut(a, 20*i, maxBlocks, 2) })
				b.sound()
			}
			b.gives(a)
			for len(b.stack) > 0 {
				b.fells()
			}
			b.scans(c, least, most, most)
			b.scans(d, least, most, most)
			if !slices.Equal(scanned(d.m, least, most, most), entries(d.m)) || len(d.m) != many {
				t.Errorf("%v", d.m)
			}
			b.gives(c)
			b.gives(d)
			for len(b.stack) > 0 {
				b.fells()
			}
			b.empty()
		}
	}
}
