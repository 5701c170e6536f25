package tree_test

import (
	"testing"

	"polder/api"
	"polder/tree"
)

// noKeys are keys that may not be.
func noKeys() []int {
	return []int{least, -1 << 32, -1 << 20, -1, maxBlocks, maxBlocks + 1, 1 << 32, 1<<32 + 10, most}
}

// finds asks for the Val of one key.
func (b *bench) finds(root, key, want int) {
	b.Helper()
	if val, e := tree.Lookup(b.p, root, key); val != want || e != api.OK {
		b.Errorf("Lookup(%d, %d) = %d, %v, not %d", root, key, val, e, want)
	}
}

// TestLookup: in trees of one level up to five, each key that is there, and those ahead of it, behind it, below all, above all, and of no tree.
func TestLookup(t *testing.T) {
	for levels, many := range []int{0, 8, 30, 100, 300, 700} {
		b := laid(t, 400)
		x := b.plant()
		val := b.holds(data(1))
		for i, key := range each(10, many, 10) {
			if i == 500 { // no page may be referred to more than 1000 times
				val = b.holds(data(2))
			}
			b.begins()
			b.is("Ref", b.p.Ref(val), api.OK)
			b.put(x, key, val)
			b.commits()
		}
		b.sound()
		if got := b.levels(x.root); got != levels {
			t.Fatalf("%d keys make %d levels, not %d", many, got, levels)
		}
		asked := func() {
			t.Helper()
			b.looks(x, 0, 10*many+20)
			for _, key := range append(noKeys(), 1<<19, maxBlocks-1) {
				b.finds(x.root, key, 0)
			}
		}
		asked()
		b.checkpoint()
		was := b.state()
		asked()
		b.begins()
		asked()
		b.p.Abort()
		b.stays(was)
	}
}

// TestLookupByHand: a tree whose Keys are less than the keys below them, with gaps between, and the greatest and the least one that may be.
func TestLookupByHand(t *testing.T) {
	b := laid(t, 64)
	val := b.holds(data(1))
	side := func(first int) int {
		a := b.holdsNode(leaf(first+2, val, first+3, val+1, first+5, val+2, first+7, val+3))
		c := b.holdsNode(leaf(first+10, val, first+20, val+4, first+21, val, first+22, val))
		d := b.holdsNode(leaf(first+40, val, first+41, val, first+42, val, first+43, val+5))
		e := b.holdsNode(leaf(first+60, val, first+61, val, first+62, val, first+1000, val+6))
		return b.holdsNode(inner(first+1, a, first+9, c, first+30, d, first+50, e))
	}
	root := b.holdsNode(inner(0, side(100), 100000, side(200000)))
	want := map[int]int{}
	for _, first := range []int{100, 200000} {
		for _, key := range []int{2, 10, 21, 22, 40, 41, 42, 60, 61, 62} {
			want[first+key] = val
		}
		for i, key := range []int{3, 5, 7, 20, 43, 1000} {
			want[first+key] = val + 1 + i
		}
	}
	for key := range 1200 {
		b.finds(root, key, want[key])
		b.finds(root, 199900+key, want[199900+key])
	}
	for _, key := range append(noKeys(), 99999, 100000, 100001, maxBlocks-1) {
		b.finds(root, key, 0)
	}
	ends := b.holdsNode(leaf(0, 5, maxBlocks-1, 6))
	b.finds(ends, 0, 5)
	b.finds(ends, maxBlocks-1, 6)
	b.finds(ends, 1, 0)
	b.finds(ends, maxBlocks-2, 0)
}

// TestLookupRoots: the empty tree has no key; what is no node's page is told as Load does.
func TestLookupRoots(t *testing.T) {
	b := laid(t, 64)
	for _, key := range append(noKeys(), 0, 5, maxBlocks-1) {
		b.finds(0, key, 0)
	}
	for root, want := range map[int]api.Errno{
		least: api.ErrRange, -1: api.ErrRange, 64: api.ErrRange, most: api.ErrRange,
		1: api.ErrImage, 2: api.ErrImage, 63: api.ErrImage, b.holds(data(1)): api.ErrImage,
	} {
		if val, e := tree.Lookup(b.p, root, 5); val != 0 || e != want {
			t.Errorf("Lookup(%d, 5) = %d, %v, not %v", root, val, e, want)
		}
		for _, key := range noKeys() { // no tree has these, whatever it is
			b.finds(root, key, 0)
		}
	}
}

// TestLookupUnder: a tree of which nothing is committed yet is the transaction's.
func TestLookupUnder(t *testing.T) {
	b := laid(t, 64)
	x := b.plant()
	b.inserts(x, each(1, 9, 1)...)
	was := x.root
	b.begins()
	b.put(x, 10, b.fresh(data(1)))
	b.drop(x, 1)
	b.looks(x, 0, 11)
	b.p.Abort()
	b.finds(was, 10, 0)
	if val, e := tree.Lookup(b.p, was, 1); val == 0 || e != api.OK {
		t.Errorf("Lookup = %d, %v", val, e)
	}
}
