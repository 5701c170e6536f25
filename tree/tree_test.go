package tree_test

import (
	"bytes"
	"maps"
	"slices"
	"testing"

	"polder/api"
	"polder/codec"
	"polder/disk"
	"polder/pool"
	"polder/store"
	"polder/tree"
)

const (
	least     = -1 << 63
	most      = 1<<63 - 1
	maxBlocks = 1 << 20
)

// bench is a pool in a test, the trees whose roots the test keeps, and how often it refers to other pages.
type bench struct {
	*testing.T
	d      *disk.Disk
	pages  int
	p      *pool.Pool
	trees  []*kept
	held   map[int]int
	filler []int // pages that are held so that they are not free
}

// kept is a tree whose root somebody keeps, and the map that was told the same.
type kept struct {
	root int
	m    map[int]int
}

// logSize is how many sectors the log of a bench has.
const logSize = 200

// laid is a new pool of so many pages, with a log behind them.
func laid(t *testing.T, pages int) *bench {
	t.Helper()
	d, e := disk.New(2 + pages + logSize)
	if e != api.OK {
		t.Fatalf("disk.New: %v", e)
	}
	b := &bench{T: t, d: d, pages: pages, held: map[int]int{}}
	b.is("Format", pool.Format(d, pages, 2+pages, logSize), api.OK)
	b.opens()
	return b
}

// opens opens the pool, anew.
func (b *bench) opens() {
	b.Helper()
	s, e := store.Open(b.d)
	b.is("store.Open", e, api.OK)
	p, e := pool.Open(s)
	if p == nil || e != api.OK {
		b.Fatalf("pool.Open = %v, %v", p, e)
	}
	b.p = p
}

// is asks what a call answered.
func (b *bench) is(call string, got, want api.Errno) {
	b.Helper()
	if got != want {
		b.Errorf("%s = %v, not %v", call, got, want)
	}
}

func (b *bench) begins()     { b.Helper(); b.is("Begin", b.p.Begin(), api.OK) }
func (b *bench) commits()    { b.Helper(); b.is("Commit", b.p.Commit(), api.OK) }
func (b *bench) checkpoint() { b.Helper(); b.is("Checkpoint", b.p.Checkpoint(), api.OK) }

// firstPages is how many pages are the catalogue and the counts.
func (b *bench) firstPages() int { return 1 + (b.pages+119)/120 }

// plant is an empty tree that the test keeps.
func (b *bench) plant() *kept {
	x := &kept{m: map[int]int{}}
	b.trees = append(b.trees, x)
	return x
}

// copied is a tree with the root of another one, which is referred to once more.
func (b *bench) copied(x *kept) *kept {
	b.Helper()
	if x.root != 0 {
		b.begins()
		b.is("Ref", b.p.Ref(x.root), api.OK)
		b.commits()
	}
	y := &kept{root: x.root, m: maps.Clone(x.m)}
	b.trees = append(b.trees, y)
	return y
}

// data is a page with a block's bytes.
func data(fill byte) api.Page {
	return api.Page{Kind: api.KindData, Body: bytes.Repeat([]byte{fill}, api.BodySize)}
}

// fresh takes a page, in a transaction that is under way.
func (b *bench) fresh(x api.Page) int {
	b.Helper()
	n, e := b.p.Fresh(x)
	if e != api.OK {
		b.Fatalf("Fresh: %v", e)
	}
	return n
}

// holds is a page that the test refers to.
func (b *bench) holds(x api.Page) int {
	b.Helper()
	b.begins()
	n := b.fresh(x)
	b.commits()
	b.held[n]++
	return n
}

// holdsNode is a page of a node that is laid by hand, which the test refers to; its Vals are not.
func (b *bench) holdsNode(n api.Node) int {
	b.Helper()
	return b.holds(nodePage(n))
}

// nodePage is a node's page, by hand.
func nodePage(n api.Node) api.Page {
	x := api.Page{Kind: api.KindInner, Body: make([]byte, api.BodySize)}
	if n.Leaf {
		x.Kind, x.Body[0] = api.KindLeaf, 1
	}
	x.Body[1] = byte(len(n.Keys))
	for i, key := range n.Keys {
		val := n.Vals[i]
		copy(x.Body[2+6*i:], []byte{byte(key >> 24), byte(key >> 16), byte(key >> 8), byte(key), byte(val >> 8), byte(val)})
	}
	return x
}

// leaf is a leaf: a Key and its Val by turns.
func leaf(pairs ...int) api.Node {
	n := api.Node{Leaf: true}
	for i := 0; i < len(pairs); i += 2 {
		n.Keys = append(n.Keys, pairs[i])
		n.Vals = append(n.Vals, pairs[i+1])
	}
	return n
}

// inner is a node that is no leaf.
func inner(pairs ...int) api.Node {
	n := leaf(pairs...)
	n.Leaf = false
	return n
}

// like tells whether two nodes are one.
func like(a, b api.Node) bool {
	return a.Leaf == b.Leaf && slices.Equal(a.Keys, b.Keys) && slices.Equal(a.Vals, b.Vals)
}

// node is the node in a page, as the codec has it: what Load answers is asked elsewhere.
func (b *bench) node(n int) api.Node {
	b.Helper()
	page, e := b.p.Read(n)
	x, ok := codec.GetNode(page.Body)
	if e != api.OK || !ok || page.Kind != map[bool]int{true: api.KindLeaf, false: api.KindInner}[x.Leaf] {
		b.Fatalf("page %d is no node's: kind %d, %v", n, page.Kind, e)
	}
	return x
}

// levels is how many levels a tree has.
func (b *bench) levels(root int) int {
	b.Helper()
	if root == 0 {
		return 0
	}
	if x := b.node(root); !x.Leaf {
		return 1 + b.levels(x.Vals[0])
	}
	return 1
}

// below asks whether what is below a page may be, of which all keys are to be from one on, and below another one; it adds the entries, and tells the levels.
func (b *bench) below(n, from, to, minKeys int, entries map[int]int) int {
	b.Helper()
	x := b.node(n)
	if len(x.Keys) < minKeys || len(x.Keys) > 8 || len(x.Vals) != len(x.Keys) {
		b.Fatalf("page %d: %v has too few Keys, or too many", n, x)
	}
	levels := 0
	for i, key := range x.Keys {
		end := to
		if i+1 < len(x.Keys) {
			end = x.Keys[i+1]
		}
		if key < from || key >= end || x.Vals[i] < 1 || x.Vals[i] >= b.pages {
			b.Fatalf("page %d: %v is not from %d on, below %d", n, x, from, to)
		}
		if x.Leaf {
			entries[key] = x.Vals[i]
			continue
		}
		got := b.below(x.Vals[i], key, end, 4, entries)
		if i > 0 && got != levels {
			b.Fatalf("page %d: leaves are not as far from it, each", n)
		}
		levels = got
	}
	return 1 + levels
}

// maybe asks whether a tree may be, and has the entries of its map.
func (b *bench) maybe(x *kept) {
	b.Helper()
	entries := map[int]int{}
	if x.root != 0 {
		minKeys := 2
		if b.node(x.root).Leaf {
			minKeys = 1
		}
		b.below(x.root, 0, maxBlocks, minKeys, entries)
	}
	if !maps.Equal(entries, x.m) {
		b.Fatalf("the tree has %v, not %v", entries, x.m)
	}
}

// refers adds how often pages are referred to by the nodes from a page on, each of which counts once.
func (b *bench) refers(n int, refs []int, seen map[int]bool) {
	if n == 0 || seen[n] {
		return
	}
	seen[n] = true
	x := b.node(n)
	for _, val := range x.Vals {
		refs[val]++
		if !x.Leaf {
			b.refers(val, refs, seen)
		}
	}
}

// sound asks whether all trees may be, have the entries of their maps, and each page has as many references as its count says.
func (b *bench) sound() {
	b.Helper()
	refs, seen := make([]int, b.pages), map[int]bool{}
	for n := range b.firstPages() {
		refs[n] = 1
	}
	for n, many := range b.held {
		refs[n] += many
	}
	for _, x := range b.trees {
		b.maybe(x)
		refs[x.root]++ // of an empty one, which refers to nothing, the catalogue's is taken back
		if x.root == 0 {
			refs[0]--
		}
		b.refers(x.root, refs, seen)
	}
	free := 0
	for n, want := range refs {
		if got := b.p.Count(n); got != want {
			b.Fatalf("page %d has %d references, and its count is %d", n, want, got)
		}
		if want == 0 {
			free++
		}
	}
	if !b.p.Under() && b.p.Free() != free {
		b.Fatalf("%d pages are free, not %d", b.p.Free(), free)
	}
}

// looks asks for the Vals of all keys from one on, up to another one.
func (b *bench) looks(x *kept, from, to int) {
	b.Helper()
	for key := from; key <= to; key++ {
		if val, e := tree.Lookup(b.p, x.root, key); val != x.m[key] || e != api.OK {
			b.Fatalf("Lookup(%d, %d) = %d, %v, not %d", x.root, key, val, e, x.m[key])
		}
	}
}

// wrote asks that since the last checkpoint no more than so many nodes' pages were written; those that were given back again count, too.
func (b *bench) wrote(most int) {
	b.Helper()
	nodes := 0
	for _, n := range b.p.Dirty() {
		if x, _ := b.p.Read(n); x.Kind == api.KindInner || x.Kind == api.KindLeaf {
			nodes++
		}
	}
	if nodes > most {
		b.Fatalf("%d pages of nodes were written, more than %d", nodes, most)
	}
}

// change does something to a tree in a transaction of its own, in which no more is written than the chapter lets.
func (b *bench) change(x *kept, call func()) {
	b.Helper()
	b.checkpoint()
	levels := b.levels(x.root)
	b.begins()
	call()
	b.commits()
	b.wrote(3*levels + 2)
}

// put maps a key to a page that the test has a reference to, in a transaction that is under way.
func (b *bench) put(x *kept, key, val int) {
	b.Helper()
	root, e := tree.Insert(b.p, x.root, key, val)
	if root == 0 || e != api.OK {
		b.Fatalf("Insert(%d, %d, %d) = %d, %v", x.root, key, val, root, e)
	}
	x.root = root
	x.m[key] = val
}

// drop takes a key away, in a transaction that is under way. What is not there leaves the root as it is.
func (b *bench) drop(x *kept, key int) {
	b.Helper()
	_, want := x.m[key]
	root, there, e := tree.Delete(b.p, x.root, key)
	if there != want || e != api.OK || !there && root != x.root {
		b.Fatalf("Delete(%d, %d) = %d, %v, %v", x.root, key, root, there, e)
	}
	x.root = root
	delete(x.m, key)
}

// inserts maps keys to fresh pages, each in a transaction of its own.
func (b *bench) inserts(x *kept, keys ...int) {
	b.Helper()
	for _, key := range keys {
		b.change(x, func() { b.put(x, key, b.fresh(data(byte(key)))) })
		b.sound()
	}
}

// deletes takes keys away, each in a transaction of its own; for one that is not there nothing is written.
func (b *bench) deletes(x *kept, keys ...int) {
	b.Helper()
	for _, key := range keys {
		_, there := x.m[key]
		b.change(x, func() { b.drop(x, key) })
		if !there && len(b.p.Dirty()) > 0 {
			b.Fatalf("pages %v were written for a key that is not there", b.p.Dirty())
		}
		b.sound()
	}
}

// grows maps keys to a page that the test holds, in few transactions, and asks only at the end whether all is sound.
func (b *bench) grows(x *kept, val int, keys ...int) {
	b.Helper()
	for _, key := range keys {
		b.begins()
		b.is("Ref", b.p.Ref(val), api.OK)
		b.put(x, key, val)
		b.commits()
	}
	b.sound()
}

// each is so many keys, from one on, by steps.
func each(from, many, step int) []int {
	keys := make([]int, many)
	for i := range keys {
		keys[i] = from + step*i
	}
	return keys
}

// falling is keys the other way round.
func falling(keys []int) []int {
	keys = slices.Clone(keys)
	slices.Reverse(keys)
	return keys
}

// state is all that is told of a pool.
type state struct {
	counts []int
	free   int
	pages  []api.Page
}

// state tells it.
func (b *bench) state() state {
	b.Helper()
	x := state{free: b.p.Free()}
	for n := range b.pages {
		page, e := b.p.Read(n)
		b.is("Read", e, api.OK)
		x.counts = append(x.counts, b.p.Count(n))
		x.pages = append(x.pages, page)
	}
	return x
}

// alike tells whether two states are one.
func alike(x, y state) bool {
	return x.free == y.free && slices.Equal(x.counts, y.counts) && slices.EqualFunc(x.pages, y.pages, func(x, y api.Page) bool {
		return x.Kind == y.Kind && bytes.Equal(x.Body, y.Body)
	})
}

// stays asks that all is as it was.
func (b *bench) stays(was state) {
	b.Helper()
	if !alike(b.state(), was) {
		b.Fatal("a page, a count, or what is free is not as it was")
	}
}

// TestExamples are the chapter's.
func TestExamples(t *testing.T) {
	b := laid(t, 64)
	was := b.p.Free()
	x := b.plant()
	b.looks(x, 5, 5)
	b.inserts(x, each(1, 9, 1)...)
	root := b.node(x.root)
	if root.Leaf || len(root.Vals) != 2 || !b.node(root.Vals[0]).Leaf || !b.node(root.Vals[1]).Leaf {
		t.Errorf("the root is %v", root)
	}
	b.looks(x, 0, 10)
	b.deletes(x, each(1, 9, 1)...)
	if x.root != 0 || b.p.Free() != was {
		t.Errorf("the root is %d, %d pages are free", x.root, b.p.Free())
	}
}

// TestNil: without a pool.
func TestNil(t *testing.T) {
	for _, n := range []int{least, -1, 0, 1, 9, most} {
		if val, e := tree.Lookup(nil, n, n); val != 0 || e != api.ErrArg {
			t.Errorf("Lookup = %d, %v", val, e)
		}
		if root, e := tree.Insert(nil, n, n, n); root != 0 || e != api.ErrArg {
			t.Errorf("Insert = %d, %v", root, e)
		}
		if root, there, e := tree.Delete(nil, n, n); root != 0 || there || e != api.ErrArg {
			t.Errorf("Delete = %d, %v, %v", root, there, e)
		}
		if x, e := tree.Load(nil, n); !like(x, api.Node{}) || e != api.ErrArg {
			t.Errorf("Load = %v, %v", x, e)
		}
	}
}
