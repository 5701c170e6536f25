package ranges_test

import (
	"bytes"
	"math/rand/v2"
	"slices"
	"testing"

	"polder/api"
	"polder/ranges"
)

// attempt is a call, in a transaction that is under way; what it answers beside an error is asked here.
type attempt struct {
	name string
	call func() api.Errno
}

// scan is a Scan.
func (b *bench) scan(root, from, to, many int) attempt {
	return attempt{"Scan", func() api.Errno {
		b.Helper()
		l, e := ranges.Scan(b.p, root, from, to, many)
		if e != api.OK && len(l) > 0 {
			b.Errorf("%v beside %v", l, e)
		}
		return e
	}}
}

// cutting is a Cut.
func (b *bench) cutting(root, from, to, many int) attempt {
	return attempt{"Cut", func() api.Errno {
		b.Helper()
		got, cut, e := ranges.Cut(b.p, root, from, to, many)
		if e != api.OK && (got != 0 || cut != 0) {
			b.Errorf("%d, %d beside %v", got, cut, e)
		}
		return e
	}}
}

// felling is a Fell.
func (b *bench) felling(stack ...int) attempt {
	return attempt{"Fell", func() api.Errno {
		b.Helper()
		handed, whole := lent(stack)
		before := slices.Clone(whole)
		left, e := ranges.Fell(b.p, handed)
		if e != api.OK && len(left) > 0 || !slices.Equal(whole, before) {
			b.Errorf("%v beside %v; handed in: %v", left, e, whole)
		}
		return e
	}}
}

// refused asks for a call that is refused in a transaction, and aborts it: all is as it was.
func (b *bench) refused(a attempt, want api.Errno) {
	b.Helper()
	was := b.state()
	b.begins()
	if e := a.call(); e != want {
		b.Errorf("%s = %v, not %v", a.name, e, want)
	}
	b.p.Abort()
	b.stays(was)
}

// TestReadErrors: each of a call's reads that the disk does not do is told; behind the Abort all is as it was.
func TestReadErrors(t *testing.T) {
	b := laid(t, 400)
	x := b.plants(mixed(60)...)
	y := b.copies(x)
	b.does(func() { b.put(y, 77, b.fresh(data(1))) })
	b.checkpoint()
	was := b.state()
	var l []attempt
	for _, from := range []int{0, 95, 300, 590} {
		l = append(l, b.scan(x.root, from, 999, 15), b.cutting(y.root, from, 999, 1), b.cutting(x.root, from, 999, 2))
	}
	for _, n := range b.nodes(x.root) {
		if b.p.Count(n) == 1 {
			l = append(l, b.felling(n), b.felling(9, 9, n))
		}
	}
	for _, a := range l {
		b.begins()
		reads := b.reads(func() api.Errno {
			e := a.call()
			if e != api.OK {
				b.p.Abort()
				b.stays(was)
				b.begins()
			}
			return e
		})
		b.p.Abort()
		b.stays(was)
		if a.name == "Fell" && reads != 1 || a.name != "Fell" && reads < b.levels(x.root) {
			t.Errorf("%s: %d reads", a.name, reads)
		}
	}
}

// TestSpoilt: a node's page that was spoilt, or was never written, is told by each call that has to look at it, and by no other one.
func TestSpoilt(t *testing.T) {
	b := laid(t, 300)
	x := b.plants(mixed(40)...)
	two := b.holds(data(1)) // to which two refer: a Fell needs no look at it
	b.raises(two, 2)
	b.checkpoint()
	for _, bad := range b.nodes(x.root) {
		m := map[int]int{}
		b.gathers(bad, m)
		own := entries(m)
		first, last := own[0].Key, own[len(own)-1].Key
		sector, _ := b.d.Read(2+bad, 1)
		other, _ := b.d.Read(2+x.root, 1) // of another page
		for _, spoilt := range []struct {
			bytes []byte
			want  api.Errno
		}{{bytes.Repeat([]byte{7}, 256), api.ErrSum}, {make([]byte, 256), api.ErrImage}, {other, api.ErrSum}} {
			if bytes.Equal(spoilt.bytes, sector) {
				continue
			}
			was := b.state()
			b.is("Write", b.d.Write(2+bad, spoilt.bytes, true), api.OK)
			for _, a := range []attempt{b.scan(x.root, 0, 999, 99), b.scan(x.root, first, first+1, 1), b.scan(x.root, 0, last, 99),
				b.cutting(x.root, first, 999, 1), b.cutting(x.root, last-5, 999, 2), b.felling(bad), b.felling(x.root, bad)} {
				b.begins()
				b.is(a.name, a.call(), spoilt.want)
				b.p.Abort()
			}
			for _, a := range []attempt{b.scan(x.root, last+1, 9, 9), b.scan(x.root, first, last, 0), b.felling(bad, two)} {
				b.begins()
				b.is(a.name, a.call(), api.OK)
				b.p.Abort()
			}
			if bad != x.root {
				for _, a := range []attempt{b.scan(x.root, 0, first, 99), b.scan(x.root, 0, 999, len(scanned(x.m, 0, first, 99))), b.felling(x.root)} {
					b.begins()
					b.is(a.name, a.call(), api.OK)
					b.p.Abort()
				}
			}
			b.is("Write", b.d.Write(2+bad, sector, true), api.OK)
			b.stays(was)
		}
	}
	b.sound()
}

// TestNoNode: pages that are in use, and no node's.
func TestNoNode(t *testing.T) {
	b := laid(t, 200)
	x := b.plants(mixed(20)...)
	val := b.holds(data(1))
	wrong := nodePage(leaf(3, val))
	wrong.Kind = api.KindInner
	for _, page := range []api.Page{data(1), wrong, nodePage(inner()), nodePage(leaf(5, val, 5, val)), nodePage(leaf(5, 0)), nodePage(inner(5, 2000))} {
		n := b.holds(page)
		for _, a := range []attempt{b.scan(n, 0, 9, 9), b.cutting(n, 0, 9, 2), b.felling(n), b.felling(x.root, n)} {
			b.refused(a, api.ErrImage)
		}
		root := b.holds(nodePage(inner(0, n, 7, x.root)))
		for _, a := range []attempt{b.scan(root, 0, 7, 9), b.cutting(root, 0, 7, 2)} {
			b.refused(a, api.ErrImage)
		}
	}
	for _, n := range []int{1, 2} { // the counts
		for _, a := range []attempt{b.scan(n, 0, 9, 9), b.cutting(n, 0, 9, 2), b.felling(n), b.felling(x.root, n)} {
			b.refused(a, api.ErrImage)
		}
	}
	b.refused(b.felling(0), api.ErrImage) // the catalogue, which is no tree's root: there 0 is the empty tree
	b.refused(b.felling(x.root, 0), api.ErrImage)
}

// TestNoPage: pages that there are not, and such as are not in use, whatever lies there still.
func TestNoPage(t *testing.T) {
	b := laid(t, 200)
	x := b.plants(mixed(20)...)
	val := b.holds(data(1))
	for _, n := range []int{least, -1, 200, 201, most} {
		for _, a := range []attempt{b.scan(n, 0, 9, 9), b.cutting(n, 0, 9, 2), b.felling(n), b.felling(x.root, n)} {
			b.refused(a, api.ErrRange)
		}
	}
	b.refused(b.felling(199), api.ErrImage) // never written
	b.refused(b.scan(199, 0, 9, 9), api.ErrImage)
	for _, old := range []api.Node{leaf(), leaf(3, val), inner(3, val), inner(3, val, 5, val)} {
		n := b.holds(nodePage(old))
		b.does(func() { b.is("Unref", b.p.Unref(n), api.OK) })
		delete(b.held, n)
		b.refused(b.felling(n), api.ErrRange)
		b.refused(b.felling(x.root, n), api.ErrRange)
		b.sound()
	}
	for _, bad := range []int{1, 2, 199, 300} { // a leaf's Val
		n := b.holds(nodePage(leaf(3, val, 5, bad)))
		b.refused(b.felling(n), api.ErrRange)
		b.is("Scan", b.scan(n, 0, 9, 9).call(), api.OK)
		b.refused(b.cutting(n, 0, 9, 2), api.ErrRange)
	}
	b.refused(b.felling(b.holds(nodePage(leaf(3, val, 5, val)))), api.ErrRange) // to which one alone refers
}

// TestRoom: where the tree has no room, or the transaction.
func TestRoom(t *testing.T) {
	b := laid(t, 300)
	x := b.plants(mixed(60)...)
	y := b.copies(x)
	top := b.holds(nodePage(inner(0, b.holds(nodePage(leaf(1, 9))), 5, b.holds(nodePage(leaf(5, 9))))))
	b.raises(9, b.p.Count(9)+2)
	for b.p.Free() > 0 {
		b.holds(data(1))
	}
	b.refused(b.cutting(y.root, 0, 999, 1), api.ErrSpace)
	b.refused(b.cutting(y.root, 0, 999, 2), api.ErrSpace)
	for n := range b.held {
		if n != top && n != b.node(top).Vals[0] && n != b.node(top).Vals[1] && n != 9 && b.p.Free() < 60 {
			b.does(func() { b.is("Unref", b.p.Unref(n), api.OK) })
			delete(b.held, n)
		}
	}
	fill := func(a attempt) attempt {
		return attempt{a.name, func() api.Errno {
			for range 40 {
				b.fresh(data(3))
			}
			return a.call()
		}}
	}
	b.refused(fill(b.cutting(y.root, 0, 999, 1)), api.ErrTooBig)
	b.refused(fill(b.felling(top)), api.ErrTooBig)
	b.refused(fill(b.felling(b.node(top).Vals[1])), api.OK) // nothing is written for a leaf
	b.refused(fill(b.scan(y.root, 0, 999, 99)), api.OK)
	full := b.node(b.nodes(x.root)[1]).Vals[0] // a page below a node that both have: the copy can't refer to it, too
	b.raises(full, 1000)
	b.refused(b.cutting(y.root, 0, 999, 1), api.ErrCount)
	b.refused(b.felling(y.root), api.OK)
	b.sound()
}

// TestRing: nodes that stand in a ring have no end; each call has one.
func TestRing(t *testing.T) {
	b := laid(t, 64)
	val := b.holds(data(1))
	n := val + 1
	b.holds(nodePage(inner(5, n+1, 9, n)))
	b.holds(nodePage(inner(5, n, 9, n+1)))
	for _, root := range []int{n, n + 1} {
		b.refused(b.scan(root, 0, 99, 9), api.ErrImage)
		b.refused(b.scan(root, 9, 10, 1), api.ErrImage)
		b.refused(b.cutting(root, 0, 99, 2), api.ErrImage)
		b.is("Scan", b.scan(root, 0, 5, 9).call(), api.OK) // no key below the first one is looked for
	}
}

// TestMany: a few nodes that stand at very many places have no more entries than keys that may be.
func TestMany(t *testing.T) {
	b := laid(t, 64)
	n := b.holds(nodePage(leaf()))
	for range 7 {
		n = b.holds(nodePage(inner(0, n, 1, n, 2, n, 3, n, 4, n, 5, n, 6, n, 7, n)))
	}
	b.checkpoint()
	reads := b.reads(b.scan(n, 0, maxBlocks, most).call)
	if reads > 100 {
		t.Errorf("%d reads", reads)
	}
}

// wildNode is one that may be, whose Vals may be anything; some have few Keys, or none.
func wildNode(r *rand.Rand) api.Node {
	n := api.Node{Leaf: r.IntN(3) > 0}
	rare := []int{2, 3, 12}[r.IntN(3)]
	for key := range 12 {
		if r.IntN(rare) == 0 && len(n.Keys) < 8 {
			n.Keys, n.Vals = append(n.Keys, key), append(n.Vals, 1+r.IntN(36))
		}
	}
	n.Leaf = n.Leaf || len(n.Keys) == 0
	return n
}

// TestWild: whatever lies in pages of nodes, each call ends, with nothing beside an error, and an Abort takes back what it did.
func TestWild(t *testing.T) {
	r := rand.New(rand.NewPCG(13, 99))
	told := map[string]map[api.Errno]int{"Scan": {}, "Cut": {}, "Fell": {}, "Clone": {}}
	for range 150 {
		b := laid(t, 40)
		b.begins()
		for range 30 {
			b.fresh(nodePage(wildNode(r)))
		}
		for range 40 {
			b.p.Ref(2 + r.IntN(30))
		}
		b.commits()
		was := b.state()
		for range 60 {
			root, from, to := r.IntN(44)-2, r.IntN(14)-1, r.IntN(14)
			stack := make([]int, r.IntN(11))
			for i := range stack {
				stack[i] = r.IntN(44) - 2
			}
			for _, a := range []attempt{b.scan(root, from, to, r.IntN(20)), b.cutting(root, from, to, r.IntN(4)), b.felling(stack...),
				{"Clone", func() api.Errno { _, e := ranges.Clone(b.p, root); return e }}} {
				b.begins()
				told[a.name][a.call()]++
				b.p.Abort()
			}
		}
		b.stays(was)
	}
	if len(told["Scan"]) != 3 || len(told["Cut"]) < 4 || len(told["Fell"]) != 4 || len(told["Clone"]) != 2 {
		t.Errorf("only %v was told", told)
	}
}
