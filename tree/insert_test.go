package tree_test

import (
	"math/rand/v2"
	"testing"

	"polder/api"
	"polder/tree"
)

// noInsert asks for an Insert that is refused.
func (b *bench) noInsert(root, key, val int, want api.Errno) {
	b.Helper()
	if got, e := tree.Insert(b.p, root, key, val); got != 0 || e != want {
		b.Errorf("Insert(%d, %d, %d) = %d, %v, not %v", root, key, val, got, e, want)
	}
}

// noRoots are roots that are no tree's, in a pool of 64 pages.
func noRoots() []int { return []int{least, -1, 1, 2, 63, 64, most} }

// TestInsertIdle: with no transaction under way that is told ahead of all else.
func TestInsertIdle(t *testing.T) {
	b := laid(t, 64)
	x := b.plant()
	idle := func() {
		t.Helper()
		was := b.state()
		for _, root := range append(noRoots(), 0, x.root) {
			for _, key := range append(noKeys(), 0, 5) {
				for _, val := range []int{least, 0, 1, 2, 50, 64, most} {
					b.noInsert(root, key, val, api.ErrIdle)
				}
			}
		}
		b.stays(was)
	}
	idle()
	b.inserts(x, each(1, 9, 1)...)
	idle()
	b.begins()
	b.p.Abort()
	idle()
}

// TestInsertRefused: keys that may not be, and what is no page in use, ahead of a root that is none; nothing changes.
func TestInsertRefused(t *testing.T) {
	b := laid(t, 64)
	x := b.plant()
	b.inserts(x, each(1, 9, 1)...)
	val := b.holds(data(1))
	gone := b.holds(data(2))
	b.begins()
	b.is("Unref", b.p.Unref(gone), api.OK)
	b.commits()
	delete(b.held, gone)
	b.begins()
	was := b.state()
	for _, root := range append(noRoots(), 0, x.root) {
		for _, key := range noKeys() {
			b.noInsert(root, key, val, api.ErrArg)
		}
		for _, key := range append(noKeys(), 0, 5, 20, maxBlocks-1) {
			for _, val := range []int{least, -1 << 32, -1, 0, gone, 63, 64, 1024, 1 << 32, 1<<32 + val, most} {
				b.noInsert(root, key, val, api.ErrArg)
			}
		}
	}
	b.stays(was)
	for root, want := range map[int]api.Errno{least: api.ErrRange, -1: api.ErrRange, 64: api.ErrRange, 1: api.ErrImage, 63: api.ErrImage, val: api.ErrImage} {
		b.noInsert(root, 5, val, want)
		b.stays(was)
	}
	b.p.Abort()
	b.stays(was)
	b.sound()
}

// TestInsertCounts: a page of counts is in use, as each of the first ones is.
func TestInsertCounts(t *testing.T) {
	b := laid(t, 130)
	for val := 1; val <= 2; val++ {
		x := b.plant()
		b.begins()
		b.put(x, 5, val)
		b.finds(x.root, 5, val)
		b.p.Abort()
		b.trees = nil
	}
	b.sound()
}

// TestInsertEmpty: the tree of one leaf, which is a page of one reference; with the least key and the greatest one, too.
func TestInsertEmpty(t *testing.T) {
	for _, key := range []int{0, 1, 5, 65536, maxBlocks - 1} {
		b := laid(t, 16)
		x := b.plant()
		b.inserts(x, key)
		if got := b.node(x.root); !like(got, leaf(key, x.m[key])) {
			t.Errorf("the root is %v", got)
		}
		if b.p.Free() != 12 || b.p.Count(x.root) != 1 || b.p.Count(x.m[key]) != 1 {
			t.Errorf("%d pages are free", b.p.Free())
		}
	}
}

// TestInsertEnds: the least keys and the greatest ones that may be, in a tree of some levels.
func TestInsertEnds(t *testing.T) {
	b := laid(t, 200)
	x := b.plant()
	b.inserts(x, each(1000, 30, 1)...)
	b.inserts(x, maxBlocks-1, 0, maxBlocks-2, 1)
	b.inserts(x, falling(each(2, 20, 1))...)
	b.inserts(x, falling(each(maxBlocks-22, 20, 1))...)
	b.looks(x, 0, 1100)
	b.looks(x, maxBlocks-30, maxBlocks+5)
}

// TestInsertThere: a key that is there has the new page; what it had is unreferred, once.
func TestInsertThere(t *testing.T) {
	for _, many := range []int{1, 8, 9, 40, 150} {
		b := laid(t, 400)
		x := b.plant()
		keys := each(3, many, 2)
		b.inserts(x, keys...)
		nodes := used(b)
		for _, key := range []int{keys[0], keys[many/2], keys[many-1]} {
			old := x.m[key]
			b.inserts(x, key)
			if b.p.Count(old) != 0 || x.m[key] == old || used(b) != nodes {
				t.Errorf("%d keys: page %d has %d references still", many, old, b.p.Count(old))
			}
			b.inserts(x, key)
		}
		// A page that others have, too, is unreferred once.
		old := x.m[keys[0]]
		b.begins()
		b.is("Ref", b.p.Ref(old), api.OK)
		b.is("Ref", b.p.Ref(old), api.OK)
		b.commits()
		b.held[old] += 2
		b.sound()
		b.inserts(x, keys[0])
		if b.p.Count(old) != 2 {
			t.Errorf("%d keys: page %d has %d references, not 2", many, old, b.p.Count(old))
		}
	}
}

// used is how many pages are in use.
func used(b *bench) int { return b.pages - b.p.Free() }

// TestInsertSame: with the very page that the key has, to which the caller refers once more, the tree refers to it as often as ahead.
func TestInsertSame(t *testing.T) {
	for _, many := range []int{1, 9, 40} {
		for _, shared := range []bool{false, true} {
			b := laid(t, 200)
			x := b.plant()
			b.inserts(x, each(3, many, 2)...)
			if shared {
				b.copied(x)
			}
			for range 2 {
				val := x.m[3]
				b.change(x, func() {
					b.is("Ref", b.p.Ref(val), api.OK)
					b.put(x, 3, val)
				})
				b.sound()
			}
		}
	}
}

// TestInsertOnePage: several keys may have one page.
func TestInsertOnePage(t *testing.T) {
	b := laid(t, 100)
	x := b.plant()
	val := b.holds(data(1))
	b.grows(x, val, each(0, 100, 3)...)
	if b.p.Count(val) != 101 {
		t.Errorf("Count = %d", b.p.Count(val))
	}
	b.deletes(x, each(0, 100, 3)...)
	if b.p.Count(val) != 1 || x.root != 0 {
		t.Errorf("Count = %d, the root is %d", b.p.Count(val), x.root)
	}
}

// TestInsertAnyPage: a page in use is asked nothing but a reference, whatever it has.
func TestInsertAnyPage(t *testing.T) {
	b := laid(t, 64)
	x := b.plant()
	for kind := api.KindCatalogue; kind <= api.KindData; kind++ {
		b.grows(x, b.holds(api.Page{Kind: kind, Body: data(7).Body}), kind)
	}
	b.grows(x, b.holdsNode(leaf(1, 2)), 10)
	b.grows(x, b.holdsNode(inner(1, 2)), 11)
	b.looks(x, 0, 12)
	b.deletes(x, each(1, 11, 1)...)
}

// orders are orders of so many keys.
func orders(many int) map[string][]int {
	rising := each(7, many, 3)
	inward := make([]int, 0, many)
	for i := range many {
		if i%2 == 0 {
			inward = append(inward, rising[i/2])
		} else {
			inward = append(inward, rising[many-1-i/2])
		}
	}
	l := map[string][]int{"rising": rising, "falling": falling(rising), "inward": inward, "outward": falling(inward)}
	for seed, name := range []string{"random", "random again"} {
		keys := make([]int, many)
		for i, at := range rand.New(rand.NewPCG(12, uint64(seed))).Perm(many) {
			keys[i] = rising[at]
		}
		l[name] = keys
	}
	return l
}

// TestInsertOrders: keys in any order, behind each of which all is sound, till there are four levels.
func TestInsertOrders(t *testing.T) {
	for name, keys := range orders(240) {
		b := laid(t, 400)
		x := b.plant()
		seen := map[int]bool{}
		for _, key := range keys {
			b.inserts(x, key)
			seen[b.levels(x.root)] = true
		}
		b.looks(x, 0, 800)
		if len(seen) < 3 || !seen[3] {
			t.Errorf("%s: trees of %v levels alone", name, seen)
		}
	}
}
