package tree_test

import (
	"bytes"
	"maps"
	"math/rand/v2"
	"slices"
	"testing"

	"polder/api"
	"polder/tree"
)

// attempt is a call that changes a tree, in a transaction that is under way.
type attempt struct {
	key     int
	deletes bool
}

// does asks it with this page, to which the tree refers behind it, if it is one that inserts.
func (a attempt) does(b *bench, root, val int) (int, api.Errno) {
	b.Helper()
	if a.deletes {
		got, there, e := tree.Delete(b.p, root, a.key)
		if there != (e == api.OK) {
			b.Errorf("Delete(%d, %d) = %d, %v, %v", root, a.key, got, there, e)
		}
		return got, e
	}
	return tree.Insert(b.p, root, a.key, val)
}

// attempts are all that may be done to a tree's keys, from 10 on by tens.
func attempts(many int) []attempt {
	var l []attempt
	for _, key := range each(10, many, 10) {
		l = append(l, attempt{key, true}, attempt{key, false}, attempt{key + 1, false})
	}
	return l
}

// refused asks that a call told nothing beside its error, and that behind the Abort all is as it was.
func (b *bench) refused(a attempt, root int, e api.Errno, was state) {
	b.Helper()
	if root != 0 {
		b.Errorf("%v: %d beside %v", a, root, e)
	}
	b.p.Abort()
	b.stays(was)
	if b.Failed() {
		b.Fatal(a)
	}
}

// ready has all pages home, and tells the pool as it is.
func (b *bench) ready() state {
	b.Helper()
	b.checkpoint()
	return b.state()
}

// How much of a tree another one has, too.
const (
	alone  = iota
	partly // but for its root and some nodes
	wholly
)

// grove is a tree of so many keys, which is shared as told, and a page that the test holds.
func grove(t *testing.T, many, shared int) (*bench, *kept, int) {
	t.Helper()
	b, x, y := twins(t, many)
	switch shared {
	case alone:
		b.trees = b.trees[:1]
		b.begins()
		b.is("Unref", b.p.Unref(y.root), api.OK)
		b.commits()
	case partly:
		b.inserts(x, 10, 10*(many/2))
	}
	return b, x, b.holds(data(1))
}

// TestReadErrors: each of a call's reads that the disk does not do is told, and the Abort takes all back.
func TestReadErrors(t *testing.T) {
	for _, shared := range []int{alone, partly, wholly} {
		b, x, val := grove(t, 40, shared)
		was := b.ready()
		for _, a := range attempts(40) {
			failed := 0
			for done := false; !done; failed++ {
				b.begins()
				b.is("Fail", b.d.Fail(api.FailRead, 1+failed), api.OK)
				root, e := a.does(b, x.root, val)
				if done = e == api.OK; !done {
					b.is("a call", e, api.ErrRead)
					b.refused(a, root, e, was)
				}
			}
			for e := api.OK; e == api.OK; { // the one that is still to fail
				_, e = b.d.Read(0, 1)
			}
			b.p.Abort()
			if failed <= b.levels(x.root) {
				t.Errorf("%v: %d reads of %d levels", a, failed-1, b.levels(x.root))
			}
		}
		b.sound()
	}
}

// TestLookupReadErrors: those of a Lookup, too.
func TestLookupReadErrors(t *testing.T) {
	b, x, _ := twins(t, 40)
	b.checkpoint()
	for n := 1; n <= b.levels(x.root); n++ {
		b.is("Fail", b.d.Fail(api.FailRead, n), api.OK)
		if val, e := tree.Lookup(b.p, x.root, 10); val != 0 || e != api.ErrRead {
			t.Errorf("Lookup = %d, %v", val, e)
		}
		b.looks(x, 0, 20)
	}
}

// way are the nodes' pages from a root down to the leaf that a key stands in, or would.
func (b *bench) way(root, key int) []int {
	b.Helper()
	way := []int{root}
	for x := b.node(root); !x.Leaf; x = b.node(way[len(way)-1]) {
		at := len(x.Keys) - 1
		for at > 0 && x.Keys[at] > key {
			at--
		}
		way = append(way, x.Vals[at])
	}
	return way
}

// TestSpoilt: a node's page that was spoilt, or is none any more, is told by each call whose way it is on, and by no Lookup or Insert else; of Deletes also where it is beside the way.
func TestSpoilt(t *testing.T) {
	b, x, _ := twins(t, 40)
	val := b.holds(data(1))
	was := b.ready()
	beside := 0
	for _, bad := range slices.Sorted(maps.Keys(b.nodesOf(x.root))) {
		sector, _ := b.d.Read(2+bad, 1)
		other, _ := b.d.Read(2+x.root, 1) // of another page
		for _, spoilt := range []struct {
			bytes []byte
			want  api.Errno
		}{{slices.Repeat([]byte{7}, 256), api.ErrSum}, {make([]byte, 256), api.ErrImage}, {other, api.ErrSum}} {
			if bytes.Equal(spoilt.bytes, sector) {
				continue
			}
			for _, a := range attempts(40) {
				way := b.way(x.root, a.key)
				b.is("Write", b.d.Write(2+bad, spoilt.bytes, true), api.OK)
				_, looked := tree.Lookup(b.p, x.root, a.key)
				b.begins()
				root, e := a.does(b, x.root, val)
				b.is("Write", b.d.Write(2+bad, sector, true), api.OK)
				if on := slices.Contains(way, bad); on != (looked == spoilt.want) || on && e != looked || looked != api.OK && !on {
					t.Errorf("page %d of the way %v: %v, and of a Lookup %v", bad, way, e, looked)
				} else if !on && e != api.OK && (e != spoilt.want || !a.deletes) {
					t.Errorf("page %d beside the way %v: %v", bad, way, e)
				} else if !on && e != api.OK {
					beside++
				}
				if e != api.OK {
					b.refused(a, root, e, was)
				}
				b.p.Abort()
			}
		}
	}
	if beside == 0 {
		t.Error("no Delete looked at a node beside its way")
	}
	b.sound()
}

// TestNoNode: a page below that was written anew as no node is told as an image that is none.
func TestNoNode(t *testing.T) {
	b, x, _ := twins(t, 40)
	val := b.holds(data(1))
	was := b.ready()
	for _, bad := range slices.Sorted(maps.Keys(b.nodesOf(x.root))) {
		wrong := nodePage(b.node(bad))
		wrong.Kind = api.KindInner + api.KindLeaf - wrong.Kind
		for _, page := range []api.Page{data(1), wrong, nodePage(inner()), nodePage(leaf(5, 1, 5, 1)), nodePage(leaf(5, 0))} {
			for _, a := range attempts(40) {
				if !slices.Contains(b.way(x.root, a.key), bad) {
					continue
				}
				b.begins()
				b.is("Write", b.p.Write(bad, page), api.OK)
				if got, e := tree.Lookup(b.p, x.root, a.key); got != 0 || e != api.ErrImage {
					t.Errorf("Lookup = %d, %v", got, e)
				}
				root, e := a.does(b, x.root, val)
				b.is("a call", e, api.ErrImage)
				b.p.Abort()
				if root != 0 {
					t.Errorf("%d beside %v", root, e)
				}
			}
			b.stays(was)
		}
	}
}

// fills takes pages, or gives such back, till just so many are free.
func (b *bench) fills(free int) {
	b.Helper()
	for b.p.Free() != free {
		many := free - b.p.Free()
		b.begins()
		for range min(35, -many) {
			n := b.fresh(data(5))
			b.held[n]++
			b.filler = append(b.filler, n)
		}
		for range many {
			n := b.filler[len(b.filler)-1]
			b.is("Unref", b.p.Unref(n), api.OK)
			delete(b.held, n)
			b.filler = b.filler[:len(b.filler)-1]
		}
		b.commits()
	}
}

// room is how many Keys more the leaf takes in which a key stands.
func (b *bench) room(x *kept, key int) int {
	b.Helper()
	way := b.way(x.root, key)
	return 8 - len(b.node(way[len(way)-1]).Keys)
}

// TestSpace: with too few pages free a call is refused, and the Abort takes all back, or it is done, and has what was asked; with no page free that hangs on whether it needs one; with 24 none is refused.
func TestSpace(t *testing.T) {
	for _, shared := range []int{alone, partly, wholly} {
		for _, free := range []int{0, 1, 2, 3, 4, 5, 24} {
			b, x, val := grove(t, 120, shared)
			for key := 611; shared == alone && b.room(x, 610) > 0; key++ {
				b.grows(x, val, key)
			}
			b.fills(free)
			was := b.ready()
			done, refused := 0, 0
			for _, a := range attempts(120) {
				b.begins()
				root, e := a.does(b, x.root, val)
				if e != api.OK {
					refused++
					b.is("a call", e, api.ErrSpace)
					b.refused(a, root, e, was)
					continue
				}
				done++
				m := maps.Clone(x.m)
				m[a.key] = val
				if a.deletes {
					delete(m, a.key)
				}
				b.maybe(&kept{root: root, m: m})
				b.p.Abort()
			}
			if free == 24 && refused > 0 || free == 0 && (refused == 0 || done == 0) && shared != wholly || free == 0 && shared == wholly && done > 0 {
				t.Errorf("shared %d: of %d free pages %d calls were done, %d refused", shared, free, done, refused)
			}
			b.sound()
		}
	}
	b := laid(t, 16)
	val := b.holds(data(1))
	b.fills(0)
	b.begins()
	b.noInsert(0, 5, val, api.ErrSpace)
}

// TestSpaceSplit: a root that becomes two, and gets another one above, takes two pages more, and one, if it is shared.
func TestSpaceSplit(t *testing.T) {
	for shared, needs := range map[int]int{alone: 2, wholly: 3} {
		for free := range 5 {
			b, x, val := grove(t, 8, shared)
			b.fills(free)
			was := b.ready()
			b.begins()
			root, e := tree.Insert(b.p, x.root, 45, val)
			if free >= needs {
				b.is("Insert", e, api.OK)
				continue
			}
			b.is("Insert", e, api.ErrSpace)
			b.refused(attempt{key: 45}, root, e, was)
		}
	}
}

// lends has another tree of the leaf at a place below a root.
func (b *bench) lends(x *kept, at int) {
	b.Helper()
	n := b.node(x.root).Vals[at]
	b.begins()
	b.is("Ref", b.p.Ref(n), api.OK)
	b.commits()
	y := &kept{root: n, m: map[int]int{}}
	for _, key := range b.node(n).Keys {
		y.m[key] = x.m[key]
	}
	b.trees = append(b.trees, y)
	b.sound()
}

// TestSpaceJoined: of two nodes that become one, one of which others have, too, the other one's page is enough, so that a Delete is done with no free page.
func TestSpaceJoined(t *testing.T) {
	for lent := range 2 {
		b := laid(t, 64)
		x := b.plant()
		b.inserts(x, each(1, 9, 1)...)
		b.deletes(x, 9) // two leaves of four
		b.lends(x, lent)
		b.fills(0)
		b.deletes(x, 2+4*(1-lent))
	}
}

// TestSpaceHalved: of two nodes that are given as much as one another, one of which others have, too, that one takes a page.
func TestSpaceHalved(t *testing.T) {
	b := laid(t, 64)
	x := b.plant()
	b.inserts(x, each(1, 10, 1)...) // a leaf of four, and one of six
	b.lends(x, 1)
	b.fills(0)
	was := b.ready()
	b.begins()
	root, there, e := tree.Delete(b.p, x.root, 1)
	if there || e != api.ErrSpace {
		t.Errorf("Delete = %v, %v", there, e)
	}
	b.refused(attempt{1, true}, root, e, was)
	b.fills(1)
	b.deletes(x, 1)
}

// TestCounts: a page of a shared node that is referred to as often as may be can't be referred to by its copy, too.
func TestCounts(t *testing.T) {
	b := laid(t, 200)
	x := b.plant()
	full := b.holds(data(1))
	val := b.holds(data(2))
	b.grows(x, full, 50)
	b.grows(x, val, 10, 20, 30, 40, 60, 70)
	raise := func(n, to int) {
		t.Helper()
		b.begins()
		for b.p.Count(n) < to {
			b.is("Ref", b.p.Ref(n), api.OK)
			b.held[n]++
		}
		b.commits()
	}
	raise(full, 1000)
	b.inserts(x, 15) // in place: nothing is referred to once more
	b.copied(x)
	was := b.ready()
	for _, a := range []attempt{{10, true}, {10, false}, {11, false}, {70, true}} {
		b.begins()
		root, e := a.does(b, x.root, val)
		b.is("a call", e, api.ErrCount)
		b.refused(a, root, e, was)
	}
	b.sound()
	b.trees = b.trees[:1] // the copy goes, and all may be done again
	b.begins()
	b.is("Unref", b.p.Unref(x.root), api.OK)
	b.commits()
	b.deletes(x, 10)
	b.inserts(x, 11)

	// Of a node below a shared one, too.
	b.grows(x, val, each(100, 60, 1)...)
	child := b.node(x.root).Vals[1]
	raise(child, 1000)
	b.copied(x)
	was = b.ready()
	b.begins()
	root, e := tree.Insert(b.p, x.root, 10, val)
	b.is("Insert", e, api.ErrCount)
	b.refused(attempt{key: 10}, root, e, was)
	b.sound()
}

// TestTooBig: a transaction that has written as many pages as may be takes no node any more, be it a copy or one that is changed in place.
func TestTooBig(t *testing.T) {
	for _, shared := range []int{alone, wholly} {
		for others := 34; others <= 40; others++ {
			b, x, val := grove(t, 120, shared)
			was := b.ready()
			done, refused := 0, 0
			for _, a := range attempts(120)[:90] {
				b.begins()
				for range others {
					b.fresh(data(2))
				}
				root, e := a.does(b, x.root, val)
				if e == api.OK {
					done++
					b.p.Abort()
					continue
				}
				refused++
				b.is("a call", e, api.ErrTooBig)
				b.refused(a, root, e, was)
			}
			if others == 40 && done > 0 || shared == wholly && others > 37 && done > 0 || others < 37 && done == 0 || others > 37 && refused == 0 {
				t.Errorf("shared %d: behind %d pages %d calls were done, %d refused", shared, others, done, refused)
			}
		}
	}
}

// TestWild: whatever lies in pages of nodes, each call ends, in rings, too, and an Abort takes back what it did.
func TestWild(t *testing.T) {
	r := rand.New(rand.NewPCG(12, 99))
	told := map[api.Errno]int{}
	for range 300 {
		b := laid(t, 40)
		b.begins()
		for range 30 {
			b.fresh(nodePage(wildNode(r)))
		}
		for range 40 {
			b.p.Ref(2 + r.IntN(30))
		}
		b.commits()
		was := b.state()
		for range 60 {
			root, key := r.IntN(34), r.IntN(12)
			if val, e := tree.Lookup(b.p, root, key); e != api.OK && val != 0 {
				t.Errorf("Lookup = %d, %v", val, e)
			}
			b.begins()
			if r.IntN(2) == 0 {
				got, e := tree.Insert(b.p, root, key, 2+r.IntN(30))
				told[e]++
				if e != api.OK && got != 0 {
					t.Errorf("Insert = %d, %v", got, e)
				}
			} else {
				got, there, e := tree.Delete(b.p, root, key)
				told[e]++
				if e != api.OK && (got != 0 || there) {
					t.Errorf("Delete = %d, %v, %v", got, there, e)
				}
			}
			b.p.Abort()
			b.stays(was)
		}
	}
	if len(told) < 4 || told[api.OK] < 1000 || told[api.ErrImage] < 1000 {
		t.Errorf("only %v was told", told)
	}
}

// wildNode is one that may be, whose Vals may be anything; some have few Keys, or none.
func wildNode(r *rand.Rand) api.Node {
	n := api.Node{Leaf: r.IntN(3) > 0}
	rare := []int{2, 3, 12}[r.IntN(3)]
	for key := range 12 {
		if r.IntN(rare) == 0 && len(n.Keys) < 8 {
			n.Keys, n.Vals = append(n.Keys, key), append(n.Vals, 1+r.IntN(36))
		}
	}
	n.Leaf = n.Leaf || len(n.Keys) == 0
	return n
}

// TestFewKeys: so it is of what is no tree only as its nodes have too few Keys: the key that is there goes, and the others stay.
func TestFewKeys(t *testing.T) {
	for many := range 3 {
		b := laid(t, 64)
		val := b.holds(data(1))
		vals := []int{b.holdsNode(leaf(3, val)), b.holdsNode(leaf(7, val)), b.holdsNode(leaf(9, val))}
		top := inner(1, vals[0], 5, vals[1], 8, vals[2])
		root := b.holdsNode(inner(1, b.holdsNode(api.Node{Keys: top.Keys[:1+many], Vals: top.Vals[:1+many]})))
		b.begins()
		for range many { // each leaf has the page, and the test too
			b.is("Ref", b.p.Ref(val), api.OK)
		}
		for i, key := range []int{3, 7, 9}[:1+many] {
			got, there, e := tree.Delete(b.p, root, key)
			if !there || e != api.OK {
				t.Errorf("Delete(%d, %d) = %d, %v, %v", root, key, got, there, e)
			}
			root = got
			for j, key := range []int{3, 7, 9} {
				if j > i && j <= many {
					b.finds(root, key, val)
				} else {
					b.finds(root, key, 0)
				}
			}
		}
	}
}

// TestRing: nodes that stand in a ring end nowhere.
func TestRing(t *testing.T) {
	b := laid(t, 64)
	val := b.holds(data(1))
	n := val + 1
	b.holdsNode(inner(5, n+1, 9, n))
	b.holdsNode(inner(5, n, 9, n+1))
	b.begins()
	was := b.state()
	for _, root := range []int{n, n + 1} {
		for _, key := range []int{0, 5, 6, 9, 10} {
			if got, e := tree.Lookup(b.p, root, key); got != 0 || e != api.ErrImage {
				t.Errorf("Lookup = %d, %v", got, e)
			}
			b.noInsert(root, key, val, api.ErrImage)
			b.noDelete(root, key, api.ErrImage)
		}
	}
	b.p.Abort()
	b.stays(was)
}
