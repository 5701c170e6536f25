package tree_test

import (
	"maps"
	"slices"
	"testing"

	"polder/api"
)

// tall is the greatest pool there may be, in which a tree of rising keys, by tens, grew till few pages were free; at is told each time ahead of the key by which all nodes on its way split. No page is referred to more than 900 times; the one that is told last has room for more.
func tall(t *testing.T, at func(b *bench, x *kept, next, val int)) (*bench, *kept, int) {
	t.Helper()
	b := laid(t, 1024)
	x := b.plant()
	val := b.holds(data(1))
	for next := 10; b.p.Free() > 60; next += 10 {
		if b.p.Count(val) == 890 {
			val = b.holds(data(1))
		}
		if b.isFull(x.root) {
			at(b, x, next, val)
		}
		b.begins()
		b.is("Ref", b.p.Ref(val), api.OK)
		b.put(x, next, val)
		b.commits()
	}
	b.sound()
	return b, x, val
}

// isFull tells whether no node on the way to the greatest key has room.
func (b *bench) isFull(root int) bool {
	b.Helper()
	if root == 0 {
		return false
	}
	for _, n := range b.way(root, maxBlocks-1) {
		if len(b.node(n).Keys) < 8 {
			return false
		}
	}
	return true
}

// roomy asks a call of a tree whose root is referred to 900 times, as its page is, while 24 pages are free; it tells how many pages it took. Nothing of it stays.
func (b *bench) roomy(x *kept, a attempt, val int) int {
	b.Helper()
	b.begins()
	for _, n := range []int{x.root, val} {
		for b.p.Count(n) < 900 {
			b.is("Ref", b.p.Ref(n), api.OK)
		}
	}
	free := b.p.Free()
	if free != 24 {
		b.Fatalf("%d pages are free", free)
	}
	levels := b.levels(x.root)
	root, e := a.does(b, x.root, val)
	if e != api.OK || root == x.root || b.p.Count(x.root) != 899 {
		b.Fatalf("%v = %d, %v", a, root, e)
	}
	took := free - b.p.Free()
	if took > 3*levels+2 {
		b.Fatalf("%v took %d pages of %d levels", a, took, levels)
	}
	b.p.Abort()
	return took
}

// TestRoom: while 24 pages are free, and no count is above 900, there is room for each call, in trees of any number of levels that there may be: where all nodes on the way split, where all are joined, and wherever else.
func TestRoom(t *testing.T) {
	splits := map[int]bool{}
	b, x, val := tall(t, func(b *bench, x *kept, next, val int) {
		b.fills(24)
		levels := b.levels(x.root)
		splits[levels] = b.roomy(x, attempt{key: next}, val) == 2*levels+1
		for _, a := range []attempt{{9, false}, {10, false}, {10, true}, {next - 10, false}, {next - 10, true}} {
			b.roomy(x, a, val)
		}
		b.fills(b.p.Free() + len(b.filler))
	})
	if b.levels(x.root) != 6 || len(splits) != 5 || !splits[1] || !splits[2] || !splits[3] || !splits[4] || !splits[5] {
		t.Errorf("%d levels; those of %v split along the whole way", b.levels(x.root), splits)
	}
	b.fills(24)
	for i, key := range slices.Sorted(maps.Keys(x.m)) {
		b.roomy(x, attempt{key, true}, val)
		if i%10 == 0 {
			b.roomy(x, attempt{key, false}, val)
			b.roomy(x, attempt{key + 1, false}, val)
		}
	}
	b.sound()
}

// TestRoomCommits: so there is for the whole transaction, the pages of counts too, and for one of two Deletes.
func TestRoomCommits(t *testing.T) {
	b, x, _ := tall(t, func(*bench, *kept, int, int) {})
	keys := slices.Sorted(maps.Keys(x.m))
	for i := range 40 {
		y := b.copied(x)
		b.fills(24)
		b.checkpoint()
		levels := b.levels(y.root)
		at := i * 131 % (len(keys) - 1)
		b.begins()
		calls := 1
		switch i % 4 {
		case 0:
			b.drop(y, keys[at])
		case 1:
			b.put(y, keys[at], b.fresh(data(2)))
		case 2:
			b.put(y, keys[at]+1, b.fresh(data(2)))
		default:
			calls = 2
			b.drop(y, keys[at])
			b.drop(y, keys[at+1])
		}
		b.commits()
		b.wrote(calls * (3*levels + 2))
		b.sound()
		// The copy goes on; the tree that it was made of is given back by hand.
		b.trees = b.trees[1:]
		b.begins()
		b.fellBelow(x.root)
		b.commits()
		b.sound()
		x = y
	}
}

// fellBelow gives a tree back that nobody keeps any more.
func (b *bench) fellBelow(n int) {
	b.Helper()
	x := b.node(n)
	if b.p.Count(n) == 1 {
		for _, val := range x.Vals {
			if x.Leaf {
				b.is("Unref", b.p.Unref(val), api.OK)
			} else {
				b.fellBelow(val)
			}
		}
	}
	b.is("Unref", b.p.Unref(n), api.OK)
}
