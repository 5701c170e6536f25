package tree_test

import (
	"bytes"
	"slices"
	"testing"

	"polder/api"
	"polder/codec"
	"polder/tree"
)

// loads asks for the node in a page.
func (b *bench) loads(n int, want api.Node) {
	b.Helper()
	if x, e := tree.Load(b.p, n); !like(x, want) || e != api.OK {
		b.Errorf("Load(%d) = %v, %v, not %v", n, x, e, want)
	}
}

// noLoad asks for one that is refused.
func (b *bench) noLoad(n int, want api.Errno) {
	b.Helper()
	if x, e := tree.Load(b.p, n); !like(x, api.Node{}) || e != want {
		b.Errorf("Load(%d) = %v, %v, not %v", n, x, e, want)
	}
}

// nodes are some that may be.
func nodes() []api.Node {
	return []api.Node{
		leaf(), leaf(0, 1), leaf(maxBlocks-1, 1023), leaf(3, 7, 5, 9), leaf(1, 2, 3, 2, 65536, 2),
		leaf(0, 1, 1, 2, 2, 3, 3, 4, 4, 5, 5, 6, 6, 7, 7, 8),
		inner(0, 1), inner(maxBlocks-1, 1023), inner(3, 7, 5, 9), inner(1, 2, 3, 2, 65536, 2),
		inner(0, 8, 1, 7, 2, 6, 3, 5, 4, 4, 5, 3, 6, 2, 7, 1),
	}
}

// badNodes are some that may not be; as bytes there are only those of the first ones, up to that number.
func badNodes() ([]api.Node, int) {
	return []api.Node{
		inner(), {}, leaf(5, 1, 3, 1), inner(5, 1, 3, 1), leaf(3, 1, 3, 1), inner(3, 1, 3, 2), leaf(3, 0), inner(3, 0), leaf(1, 1, 2, 0),
		leaf(-1, 1), inner(-1, 1), leaf(maxBlocks, 1), inner(maxBlocks, 1), leaf(3, 1024), inner(3, 1024), leaf(3, -1),
		leaf(0, 1, 1, 2, 2, 3, 3, 4, 4, 5, 5, 6, 6, 7, 7, 8, 8, 9), inner(0, 1, 1, 2, 2, 3, 3, 4, 4, 5, 5, 6, 6, 7, 7, 8, 8, 9),
		{Leaf: true, Keys: []int{1}}, {Leaf: true, Vals: []int{1}}, {Keys: []int{1, 2}, Vals: []int{1}}, {Keys: []int{1}, Vals: []int{1, 2}},
	}, 9
}

// TestLoad: the node in a page, whoever has it in use, be it written just now, in the log, or at home.
func TestLoad(t *testing.T) {
	b := laid(t, 64)
	var pages []int
	b.begins()
	for _, x := range nodes() {
		n := b.fresh(nodePage(x))
		b.loads(n, x)
		pages = append(pages, n)
	}
	all := func() {
		t.Helper()
		for i, x := range nodes() {
			b.loads(pages[i], x)
		}
	}
	b.commits()
	all()
	b.checkpoint()
	all()
	b.begins()
	for _, n := range pages {
		b.is("Unref", b.p.Unref(n), api.OK)
	}
	b.commits()
	all() // given back, but still what was written there
}

// TestLoadRefused: pages that are none of a node that may be.
func TestLoadRefused(t *testing.T) {
	b := laid(t, 130)
	for _, n := range []int{least, -1 << 32, -1, 130, 131, 1024, 1 << 32, most} {
		b.noLoad(n, api.ErrRange)
	}
	for _, n := range []int{0, 1, 2, 3, 129} { // the catalogue, the counts, pages that were never written
		b.noLoad(n, api.ErrImage)
	}
	refused := func(x api.Page) {
		t.Helper()
		b.begins()
		n := b.fresh(x)
		b.noLoad(n, api.ErrImage)
		b.p.Abort()
	}
	for _, x := range nodes() {
		page := nodePage(x)
		for kind := api.KindCatalogue; kind <= api.KindData; kind++ { // an inner node's bytes as a leaf's kind, too, and the other way round
			if kind != page.Kind {
				refused(api.Page{Kind: kind, Body: page.Body})
			}
		}
	}
	bad, many := badNodes()
	for _, x := range bad[:many] {
		refused(nodePage(x))
	}
	for _, x := range []api.Node{leaf(3, 7), inner(3, 7)} {
		for at, fill := range map[int]byte{0: 2, 1: 9, 2: 255, 3: 16, 6: 4, 8: 1, 9: 1, 239: 1} {
			page := nodePage(x)
			page.Body[at] = fill
			refused(page)
		}
	}
	refused(data(255))
}

// TestLoadDisk: what the disk does not read, and what was spoilt on it.
func TestLoadDisk(t *testing.T) {
	b := laid(t, 64)
	n := b.holdsNode(leaf(3, 7))
	b.checkpoint()
	b.is("Fail", b.d.Fail(api.FailRead, 1), api.OK)
	b.noLoad(n, api.ErrRead)
	b.loads(n, leaf(3, 7))
	b.is("Write", b.d.Write(2+n, bytes.Repeat([]byte{1}, api.SectorSize), false), api.OK)
	b.noLoad(n, api.ErrSum)
	b.is("Write", b.d.Write(2+n, make([]byte, api.SectorSize), false), api.OK)
	b.noLoad(n, api.ErrImage)
}

// TestLoadMemory: what is answered is its caller's, spare room too.
func TestLoadMemory(t *testing.T) {
	b := laid(t, 64)
	for _, want := range nodes() {
		n := b.holdsNode(want)
		for range 2 {
			x, e := tree.Load(b.p, n)
			if !like(x, want) || e != api.OK {
				t.Errorf("Load = %v, %v, not %v", x, e, want)
			}
			spoil(x.Keys)
			if !slices.Equal(x.Vals, want.Vals) {
				t.Error("Keys and Vals share memory")
			}
			spoil(x.Vals)
		}
	}
}

// spoil changes a list, and its spare room.
func spoil(l []int) {
	for i := range l[:cap(l)] {
		l[:cap(l)][i] = -77
	}
}

// TestSave: a node's page, by its bytes, which is what Load takes.
func TestSave(t *testing.T) {
	b := laid(t, 64)
	for _, x := range nodes() {
		want := nodePage(x)
		for range 2 {
			got, e := tree.Save(x)
			if e != api.OK || got.Kind != want.Kind || !bytes.Equal(got.Body, want.Body) {
				t.Errorf("Save(%v) = %v, %v", x, got, e)
			}
			if body, e := codec.PutNode(x); e != api.OK || !bytes.Equal(got.Body, body) {
				t.Errorf("Save(%v) has another body than PutNode, %v", x, e)
			}
			clear(got.Body[:cap(got.Body)])
		}
		got, _ := tree.Save(x)
		b.loads(b.holds(got), x)
	}
	bad, _ := badNodes()
	for _, x := range bad {
		if got, e := tree.Save(x); got.Kind != 0 || len(got.Body) != 0 || e != api.ErrNode {
			t.Errorf("Save(%v) = %v, %v", x, got, e)
		}
	}
}

// TestSaveLent: what is handed in is not changed, its spare room neither, and not kept.
func TestSaveLent(t *testing.T) {
	room := func() ([]int, []int) { return []int{1, 3, 5, 7, 9}, []int{2, 4, 6, 8, 10} }
	keys, vals := room()
	page, e := tree.Save(api.Node{Leaf: true, Keys: keys[1:3], Vals: vals[1:3]})
	wantKeys, wantVals := room()
	if e != api.OK || !slices.Equal(keys, wantKeys) || !slices.Equal(vals, wantVals) {
		t.Errorf("Save changed %v, %v (%v)", keys, vals, e)
	}
	spoil(keys)
	spoil(vals)
	if want := nodePage(leaf(3, 4, 5, 6)); !bytes.Equal(page.Body, want.Body) {
		t.Errorf("Save = %v", page)
	}
}
