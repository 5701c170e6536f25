package tree_test

import (
	"bytes"
	"maps"
	"math/rand/v2"
	"slices"
	"testing"
)

// nodesOf are the pages of a tree's nodes, as they lie there.
func (b *bench) nodesOf(root int) map[int][]byte {
	b.Helper()
	pages := map[int][]byte{}
	var add func(n int)
	add = func(n int) {
		x := b.node(n)
		page, _ := b.p.Read(n)
		pages[n] = page.Body
		for _, val := range x.Vals {
			if !x.Leaf {
				add(val)
			}
		}
	}
	if root != 0 {
		add(root)
	}
	return pages
}

// untouched does something to one tree, by which no node of another one is to change.
func (b *bench) untouched(x *kept, call func()) {
	b.Helper()
	was := b.nodesOf(x.root)
	call()
	if !maps.EqualFunc(b.nodesOf(x.root), was, bytes.Equal) {
		b.Fatal("a node that is in use by another tree was changed")
	}
}

// twins are a tree of so many keys, from 10 on by tens, inserted in an order by which its nodes have more Keys and fewer, and a copy.
func twins(t *testing.T, many int) (*bench, *kept, *kept) {
	t.Helper()
	b := laid(t, 500)
	x := b.plant()
	for i := range many {
		key := 10 + 13*i%many*10
		b.begins()
		b.put(x, key, b.fresh(data(byte(key))))
		b.commits()
	}
	return b, x, b.copied(x)
}

// TestShared: of two trees that had one root each has the entries that it was told, whatever is done to the other one.
func TestShared(t *testing.T) {
	for _, many := range []int{1, 8, 9, 40, 150} {
		for _, turned := range []bool{false, true} {
			b, x, y := twins(t, many)
			if turned {
				x, y = y, x
			}
			b.sound()
			for _, key := range []int{10, 10*(many/2) + 5, 10 * many, 10*many + 1, 0} {
				b.untouched(x, func() { b.inserts(y, key) })
			}
			b.untouched(y, func() { b.inserts(x, each(100, 12, 7)...) })
			for _, key := range falling(each(0, many+1, 10)) {
				b.untouched(x, func() { b.deletes(y, key) })
			}
			b.untouched(y, func() { b.deletes(x, each(10, many, 10)...) })
			b.looks(x, 0, 200)
			b.looks(y, 0, 200)
		}
	}
}

// TestEachShared: any key alone, of a tree whose root is shared, and of one whose nodes below are.
func TestEachShared(t *testing.T) {
	for _, many := range []int{5, 9, 33, 42, 100} {
		b, x, y := twins(t, many)
		for _, first := range [][]int{nil, {10}, {10 * many}, {10 * (many / 2)}} {
			b.inserts(y, first...)
			root, m := y.root, maps.Clone(y.m)
			for _, key := range each(10, many, 10) {
				for _, call := range []func(){
					func() { b.drop(y, key) },
					func() { b.put(y, key, b.fresh(data(1))) },
					func() { b.put(y, key+1, b.fresh(data(1))) },
				} {
					b.begins()
					b.untouched(x, call)
					b.sound()
					b.p.Abort()
					y.root, y.m = root, maps.Clone(m)
				}
			}
			b.sound()
		}
	}
}

// TestBelowShared: the nodes below a shared root are shared, too, though the count of each is 1; a change copies those on its way alone, and what is beside it is referred to by both.
func TestBelowShared(t *testing.T) {
	b, x, y := twins(t, 30)
	root := b.node(x.root)
	if root.Leaf || b.levels(x.root) != 2 || b.p.Count(x.root) != 2 {
		t.Fatalf("the root is %v, referred to %d times", root, b.p.Count(x.root))
	}
	for _, val := range root.Vals {
		if b.p.Count(val) != 1 {
			t.Errorf("page %d is referred to %d times", val, b.p.Count(val))
		}
	}
	free := b.p.Free()
	b.untouched(x, func() { b.inserts(y, 10) })
	if x.root == y.root || b.p.Count(x.root) != 1 || b.p.Count(y.root) != 1 || b.p.Free() != free-3 {
		t.Errorf("the roots %d and %d are referred to %d and %d times", x.root, y.root, b.p.Count(x.root), b.p.Count(y.root))
	}
	for i, val := range b.node(y.root).Vals {
		if shared := val == root.Vals[i]; shared != (i > 0) || shared && b.p.Count(val) != 2 || !shared && b.p.Count(val) != 1 {
			t.Errorf("child %d, page %d, is referred to %d times", i, val, b.p.Count(val))
		}
	}
	// Now each tree's own way is its own, and is changed in place.
	for _, z := range []*kept{x, y} {
		was := z.root
		b.inserts(z, 10, 10)
		if z.root != was || b.p.Free() != free-3 && z == y {
			t.Errorf("the root %d became %d", was, z.root)
		}
	}
}

// TestForest: several trees, each a copy of another one or planted anew, changed in any order.
func TestForest(t *testing.T) {
	for seed, keys := range []int{30, 90, 200} {
		b := laid(t, 1024)
		r := rand.New(rand.NewPCG(12, uint64(70+seed)))
		b.plant()
		shared := 0
		for range 2000 {
			x := b.trees[r.IntN(len(b.trees))]
			key := r.IntN(keys) * 7
			switch k := r.IntN(100); {
			case k < 55:
				b.inserts(x, key)
			case k < 93 && len(x.m) > 0:
				has := slices.Sorted(maps.Keys(x.m))
				b.deletes(x, has[r.IntN(len(has))])
			case len(b.trees) < 5:
				b.copied(x)
			case k > 96:
				b.fell(r.IntN(5))
			}
			b.sound()
			for n := range b.pages {
				if n >= b.firstPages() && b.p.Count(n) > 1 {
					shared++
				}
			}
		}
		for _, x := range b.trees {
			b.looks(x, 0, 7*keys)
		}
		if shared < 5000 {
			t.Errorf("%d keys: %d pages were shared", keys, shared)
		}
		for len(b.trees) > 0 {
			b.fell(0)
		}
		if b.p.Free() != 1024-b.firstPages() {
			t.Errorf("%d pages are free", b.p.Free())
		}
	}
}

// fell takes all keys of a tree away, by which it is kept no more.
func (b *bench) fell(at int) {
	b.Helper()
	x := b.trees[at]
	for key := range x.m {
		b.begins()
		b.drop(x, key)
		b.commits()
	}
	if x.root != 0 {
		b.Fatalf("the empty tree's root is %d", x.root)
	}
	b.trees = slices.Delete(b.trees, at, at+1)
	b.sound()
}
