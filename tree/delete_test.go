package tree_test

import (
	"maps"
	"math/rand/v2"
	"slices"
	"testing"

	"polder/api"
	"polder/tree"
)

// noDelete asks for a Delete that is refused.
func (b *bench) noDelete(root, key int, want api.Errno) {
	b.Helper()
	if got, there, e := tree.Delete(b.p, root, key); got != 0 || there || e != want {
		b.Errorf("Delete(%d, %d) = %d, %v, %v, not %v", root, key, got, there, e, want)
	}
}

// TestDeleteIdle: with no transaction under way that is told ahead of all else.
func TestDeleteIdle(t *testing.T) {
	b := laid(t, 64)
	x := b.plant()
	b.inserts(x, each(1, 9, 1)...)
	was := b.state()
	for _, root := range append(noRoots(), 0, x.root) {
		for _, key := range append(noKeys(), 0, 5, 20) {
			b.noDelete(root, key, api.ErrIdle)
		}
	}
	b.stays(was)
}

// TestDeleteRoots: what is no node's page is told as Load does.
func TestDeleteRoots(t *testing.T) {
	b := laid(t, 64)
	page := b.holds(data(1))
	b.begins()
	was := b.state()
	for root, want := range map[int]api.Errno{least: api.ErrRange, -1: api.ErrRange, 64: api.ErrRange, 1: api.ErrImage, 63: api.ErrImage, page: api.ErrImage} {
		b.noDelete(root, 5, want)
	}
	b.stays(was)
}

// TestDeleteNotThere: the same root, and nothing is written, taken or referred to, be the tree shared or not.
func TestDeleteNotThere(t *testing.T) {
	for _, many := range []int{0, 1, 8, 9, 40, 150} {
		for _, shared := range []bool{false, true} {
			b := laid(t, 400)
			x := b.plant()
			b.inserts(x, each(10, many, 10)...)
			if shared {
				b.copied(x)
			}
			b.checkpoint()
			b.begins()
			was := b.state()
			for _, key := range append(noKeys(), 0, 9, 11, 10*(many/2)+5, 10*many+5, 10*many+10, maxBlocks-1) {
				b.drop(x, key)
				b.stays(was)
			}
			b.commits()
			if len(b.p.Dirty()) != 0 {
				t.Errorf("%d keys: pages %v were written", many, b.p.Dirty())
			}
			b.sound()
		}
	}
}

// TestDeleteOrders: keys in any order, inserted in any other one, behind each of which all is sound, down to the empty tree, behind which all pages are free again.
func TestDeleteOrders(t *testing.T) {
	in := orders(150)
	for first, keys := range in {
		for second, gone := range in {
			b := laid(t, 300)
			free := b.p.Free()
			x := b.plant()
			for _, key := range keys {
				b.begins()
				b.put(x, key, b.fresh(data(byte(key))))
				b.commits()
			}
			b.sound()
			for i, key := range gone {
				b.deletes(x, key)
				if i%10 == 0 {
					b.deletes(x, key)
					b.looks(x, 0, 470)
				}
			}
			if x.root != 0 || b.p.Free() != free {
				t.Errorf("%s, %s: the root is %d, %d pages are free", first, second, x.root, b.p.Free())
			}
		}
	}
}

// TestEachDelete: of trees of each size any key, and any key anew, as the only change.
func TestEachDelete(t *testing.T) {
	for name, keys := range orders(60) {
		b := laid(t, 200)
		x := b.plant()
		for i, key := range keys {
			b.inserts(x, key)
			root, m := x.root, maps.Clone(x.m)
			asked := func(call func()) {
				b.begins()
				call()
				b.sound()
				b.p.Abort()
				x.root, x.m = root, maps.Clone(m)
			}
			for _, key := range keys[:i+1] {
				asked(func() { b.drop(x, key) })
				for _, near := range []int{key - 1, key, key + 1} {
					asked(func() { b.put(x, near, b.fresh(data(1))) })
				}
			}
			b.sound()
			if t.Failed() {
				t.Fatal(name)
			}
		}
	}
}

// TestMap: what is inserted and deleted, in any order, is a map: small ones that grow empty again and again, and great ones.
func TestMap(t *testing.T) {
	for _, c := range []struct{ keys, step, calls int }{{12, 1, 1500}, {40, 3, 2000}, {150, 5, 2500}, {400, 2500, 3000}} {
		b := laid(t, 700)
		x := b.plant()
		r := rand.New(rand.NewPCG(12, uint64(c.keys)))
		levels, empty := map[int]bool{}, 0
		for i := range c.calls {
			key := r.IntN(c.keys) * c.step
			grows := i/(2*c.keys)%2 == 0
			if (r.IntN(6) > 0) == grows {
				b.inserts(x, key)
			} else {
				if !grows && len(x.m) > 0 && r.IntN(3) > 0 {
					keys := slices.Sorted(maps.Keys(x.m))
					key = keys[r.IntN(len(keys))]
				}
				b.deletes(x, key)
			}
			levels[b.levels(x.root)] = true
			if x.root == 0 {
				empty++
			}
		}
		b.looks(x, 0, 100)
		if len(levels) < min(4, 2+c.keys/40) {
			t.Errorf("%d keys: trees of %v levels alone", c.keys, levels)
		}
		if c.keys == 12 && empty < 10 {
			t.Errorf("the tree was empty %d times", empty)
		}
	}
}

// TestManyCalls: in one transaction, too, each call has the tree of the one ahead of it.
func TestManyCalls(t *testing.T) {
	b := laid(t, 400)
	x := b.plant()
	r := rand.New(rand.NewPCG(12, 1200))
	for range 300 {
		b.begins()
		for range 1 + r.IntN(3) {
			key := r.IntN(200)
			if r.IntN(5) < 3 {
				b.put(x, key, b.fresh(data(byte(key))))
			} else {
				b.drop(x, key)
			}
			b.sound()
		}
		b.commits()
		b.sound()
		if r.IntN(40) == 0 && x.root != 0 {
			b.copied(x)
		}
		if len(b.trees) > 2 { // one that is kept no more, key by key
			y := b.trees[1]
			b.deletes(y, slices.Sorted(maps.Keys(y.m))...)
			b.trees = slices.Delete(b.trees, 1, 2)
		}
	}
	b.looks(x, 0, 200)
}
