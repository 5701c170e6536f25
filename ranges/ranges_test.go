package ranges_test

import (
	"bytes"
	"maps"
	"slices"
	"testing"

	"polder/api"
	"polder/codec"
	"polder/disk"
	"polder/pool"
	"polder/ranges"
	"polder/store"
	"polder/tree"
)

const (
	least     = -1 << 63
	most      = 1<<63 - 1
	maxBlocks = 1 << 20
)

// bench is a pool in a test, the trees whose roots the test keeps, the stack of those that are felled, and how often the test refers to other pages.
type bench struct {
	*testing.T
	d     *disk.Disk
	pages int
	p     *pool.Pool
	trees []*kept
	stack []int
	held  map[int]int
}

// kept is a tree whose root somebody keeps, and the map that was told the same.
type kept struct {
	root int
	m    map[int]int
}

// logSize is how many sectors the log of a bench has.
const logSize = 200

// laid is a new pool of so many pages, with a log behind them.
func laid(t *testing.T, pages int) *bench {
	t.Helper()
	d, e := disk.New(2 + pages + logSize)
	if e != api.OK {
		t.Fatalf("disk.New: %v", e)
	}
	b := &bench{T: t, d: d, pages: pages, held: map[int]int{}}
	b.is("Format", pool.Format(d, pages, 2+pages, logSize), api.OK)
	b.opens()
	return b
}

// opens opens the pool, anew.
func (b *bench) opens() {
	b.Helper()
	s, e := store.Open(b.d)
	b.is("store.Open", e, api.OK)
	p, e := pool.Open(s)
	if p == nil || e != api.OK {
		b.Fatalf("pool.Open = %v, %v", p, e)
	}
	b.p = p
}

// is asks what a call answered.
func (b *bench) is(call string, got, want api.Errno) {
	b.Helper()
	if got != want {
		b.Errorf("%s = %v, not %v", call, got, want)
	}
}

func (b *bench) begins()     { b.Helper(); b.is("Begin", b.p.Begin(), api.OK) }
func (b *bench) commits()    { b.Helper(); b.is("Commit", b.p.Commit(), api.OK) }
func (b *bench) checkpoint() { b.Helper(); b.is("Checkpoint", b.p.Checkpoint(), api.OK) }

// does asks for something in a transaction of its own.
func (b *bench) does(call func()) {
	b.Helper()
	b.begins()
	call()
	b.commits()
}

// firstPages is how many pages are the catalogue and the counts.
func (b *bench) firstPages() int { return 1 + (b.pages+119)/120 }

// data is a page with a block's bytes.
func data(fill byte) api.Page {
	return api.Page{Kind: api.KindData, Body: bytes.Repeat([]byte{fill}, api.BodySize)}
}

// fresh takes a page, in a transaction that is under way.
func (b *bench) fresh(x api.Page) int {
	b.Helper()
	n, e := b.p.Fresh(x)
	if e != api.OK {
		b.Fatalf("Fresh: %v", e)
	}
	return n
}

// holds is a page that the test refers to.
func (b *bench) holds(x api.Page) int {
	b.Helper()
	n := 0
	b.does(func() { n = b.fresh(x) })
	b.held[n]++
	return n
}

// raises has the test refer to a page till its count is this.
func (b *bench) raises(n, to int) {
	b.Helper()
	b.does(func() {
		for b.p.Count(n) < to {
			b.is("Ref", b.p.Ref(n), api.OK)
			b.held[n]++
		}
	})
}

// put maps a key to a page that the test has a reference to, in a transaction that is under way.
func (b *bench) put(x *kept, key, val int) {
	b.Helper()
	root, e := tree.Insert(b.p, x.root, key, val)
	if e != api.OK {
		b.Fatalf("Insert(%d, %d, %d) = %d, %v", x.root, key, val, root, e)
	}
	x.root, x.m[key] = root, val
}

// drop takes a key away, in a transaction that is under way.
func (b *bench) drop(x *kept, key int) {
	b.Helper()
	root, _, e := tree.Delete(b.p, x.root, key)
	if e != api.OK {
		b.Fatalf("Delete(%d, %d) = %d, %v", x.root, key, root, e)
	}
	x.root = root
	delete(x.m, key)
}

// plants is a new tree of these keys, each with a page of its own, that the test keeps.
func (b *bench) plants(keys ...int) *kept {
	b.Helper()
	x := &kept{m: map[int]int{}}
	b.trees = append(b.trees, x)
	for _, key := range keys {
		b.does(func() { b.put(x, key, b.fresh(data(byte(key)))) })
	}
	b.sound()
	return x
}

// copies is a clone of a tree, that the test keeps, too.
func (b *bench) copies(x *kept) *kept {
	b.Helper()
	y := &kept{m: maps.Clone(x.m)}
	b.does(func() {
		root, e := ranges.Clone(b.p, x.root)
		if root != x.root || e != api.OK {
			b.Fatalf("Clone(%d) = %d, %v", x.root, root, e)
		}
		y.root = root
	})
	b.trees = append(b.trees, y)
	b.sound()
	return y
}

// gives puts the root of a tree on the stack, which nobody keeps any more.
func (b *bench) gives(x *kept) {
	b.Helper()
	if x.root != 0 {
		b.stack = append(b.stack, x.root)
	}
	b.trees = slices.DeleteFunc(b.trees, func(y *kept) bool { return y == x })
	b.sound()
}

// each is so many keys, from one on, by steps.
func each(from, many, step int) []int {
	keys := make([]int, many)
	for i := range keys {
		keys[i] = from + step*i
	}
	return keys
}

// mixed is so many keys, from 10 on by tens, in an order by which some nodes have more Keys, and some fewer.
func mixed(many int) []int {
	keys := make([]int, many)
	for i := range keys {
		keys[i] = 10 + 13*i%many*10
	}
	return keys
}

// entries are those of a map, by Key.
func entries(m map[int]int) []api.Entry {
	var l []api.Entry
	for _, key := range slices.Sorted(maps.Keys(m)) {
		l = append(l, api.Entry{Key: key, Val: m[key]})
	}
	return l
}

// scanned are those of a map that a Scan tells: the chapter told once more.
func scanned(m map[int]int, from, to, most int) []api.Entry {
	var l []api.Entry
	for _, x := range entries(m) {
		if x.Key >= from && x.Key < to && len(l) < most {
			l = append(l, x)
		}
	}
	return l
}

// scans asks for a Scan.
func (b *bench) scans(x *kept, from, to, most int) {
	b.Helper()
	got, e := ranges.Scan(b.p, x.root, from, to, most)
	if want := scanned(x.m, from, to, most); !slices.Equal(got, want) || e != api.OK {
		b.Fatalf("Scan(%d, %d, %d, %d) = %v, %v, not %v", x.root, from, to, most, got, e, want)
	}
}

// nodePage is a node's page, by hand.
func nodePage(n api.Node) api.Page {
	x := api.Page{Kind: api.KindInner, Body: make([]byte, api.BodySize)}
	if n.Leaf {
		x.Kind, x.Body[0] = api.KindLeaf, 1
	}
	x.Body[1] = byte(len(n.Keys))
	for i, key := range n.Keys {
		val := n.Vals[i]
		copy(x.Body[2+6*i:], []byte{byte(key >> 24), byte(key >> 16), byte(key >> 8), byte(key), byte(val >> 8), byte(val)})
	}
	return x
}

// leaf is a leaf: a Key and its Val by turns.
func leaf(pairs ...int) api.Node {
	n := api.Node{Leaf: true}
	for i := 0; i < len(pairs); i += 2 {
		n.Keys, n.Vals = append(n.Keys, pairs[i]), append(n.Vals, pairs[i+1])
	}
	return n
}

// inner is a node that is no leaf.
func inner(pairs ...int) api.Node {
	n := leaf(pairs...)
	n.Leaf = false
	return n
}

// node is the node in a page, as the codec has it.
func (b *bench) node(n int) api.Node {
	b.Helper()
	page, e := b.p.Read(n)
	x, ok := codec.GetNode(page.Body)
	if e != api.OK || !ok {
		b.Fatalf("page %d is no node's: kind %d, %v", n, page.Kind, e)
	}
	return x
}

// levels is how many levels a tree has.
func (b *bench) levels(root int) int {
	b.Helper()
	if root == 0 {
		return 0
	}
	if x := b.node(root); !x.Leaf {
		return 1 + b.levels(x.Vals[0])
	}
	return 1
}

// nodes are the pages of a tree's nodes, each once.
func (b *bench) nodes(root int) []int {
	b.Helper()
	if root == 0 {
		return nil
	}
	l := []int{root}
	if x := b.node(root); !x.Leaf {
		for _, val := range x.Vals {
			l = append(l, b.nodes(val)...)
		}
	}
	return l
}

// gathers adds the entries of the leaves below a page.
func (b *bench) gathers(n int, m map[int]int) {
	b.Helper()
	x := b.node(n)
	for i, val := range x.Vals {
		if x.Leaf {
			m[x.Keys[i]] = val
		} else {
			b.gathers(val, m)
		}
	}
}

// refers adds how often pages are referred to by the nodes from a page on, each of which counts once.
func (b *bench) refers(n int, refs []int, seen map[int]bool) {
	b.Helper()
	if n == 0 || seen[n] {
		return
	}
	seen[n] = true
	x := b.node(n)
	for _, val := range x.Vals {
		refs[val]++
		if !x.Leaf {
			b.refers(val, refs, seen)
		}
	}
}

// sound asks whether all trees have the entries of their maps, and each page has as many references as its count says: those of the trees, of the stack, and of the test.
func (b *bench) sound() {
	b.Helper()
	refs, seen := make([]int, b.pages), map[int]bool{}
	for n := range b.firstPages() {
		refs[n] = 1
	}
	for n, many := range b.held {
		refs[n] += many
	}
	roots := slices.Clone(b.stack)
	for _, x := range b.trees {
		m := map[int]int{}
		if x.root != 0 {
			roots = append(roots, x.root)
			b.gathers(x.root, m)
		}
		if !maps.Equal(m, x.m) {
			b.Fatalf("the tree has %v, not %v", entries(m), entries(x.m))
		}
	}
	for _, n := range roots {
		refs[n]++
		b.refers(n, refs, seen)
	}
	free := 0
	for n, want := range refs {
		if got := b.p.Count(n); got != want {
			b.Fatalf("page %d has %d references, and its count is %d", n, want, got)
		}
		if want == 0 {
			free++
		}
	}
	if !b.p.Under() && b.p.Free() != free {
		b.Fatalf("%d pages are free, not %d", b.p.Free(), free)
	}
}

// empty asks that all is free but what the test holds.
func (b *bench) empty() {
	b.Helper()
	if b.p.Free() != b.pages-b.firstPages()-len(b.held) {
		b.Fatalf("%d pages are free", b.p.Free())
	}
}

// state is all that is told of a pool.
type state struct {
	counts []int
	free   int
	pages  []api.Page
}

// state tells it.
func (b *bench) state() state {
	b.Helper()
	x := state{free: b.p.Free()}
	for n := range b.pages {
		page, e := b.p.Read(n)
		b.is("Read", e, api.OK)
		x.counts, x.pages = append(x.counts, b.p.Count(n)), append(x.pages, page)
	}
	return x
}

// samePage tells whether two pages are one.
func samePage(x, y api.Page) bool { return x.Kind == y.Kind && bytes.Equal(x.Body, y.Body) }

// alike tells whether two states are one.
func alike(x, y state) bool {
	return x.free == y.free && slices.Equal(x.counts, y.counts) && slices.EqualFunc(x.pages, y.pages, samePage)
}

// stays asks that all is as it was.
func (b *bench) stays(was state) {
	b.Helper()
	if !alike(b.state(), was) {
		b.Fatal("a page, a count, or what is free is not as it was")
	}
}

// TestExamples are the chapter's.
func TestExamples(t *testing.T) {
	b := laid(t, 64)
	x := b.plants(each(1, 9, 1)...)
	for _, s := range []struct {
		from, to, most int
		want           []int
	}{{2, 5, 10, []int{2, 3, 4}}, {0, 99, 2, []int{1, 2}}} {
		got, e := ranges.Scan(b.p, x.root, s.from, s.to, s.most)
		b.is("Scan", e, api.OK)
		if !slices.EqualFunc(got, s.want, func(x api.Entry, key int) bool { return x.Key == key }) {
			t.Errorf("Scan(%d, %d, %d) = %v", s.from, s.to, s.most, got)
		}
	}
	b.begins()
	root, many, e := ranges.Cut(b.p, x.root, 0, 3, 2)
	if many != 2 || e != api.OK {
		t.Errorf("Cut = %d, %d, %v", root, many, e)
	}
	b.scans(&kept{root, map[int]int{3: x.m[3], 4: x.m[4], 5: x.m[5], 6: x.m[6], 7: x.m[7], 8: x.m[8], 9: x.m[9]}}, 0, 99, 99)
	b.p.Abort()

	top := b.node(x.root)
	stack := []int{x.root}
	for i, want := range [][]int{{x.root, top.Vals[1]}, {x.root}, {top.Vals[0]}, {}} {
		b.does(func() { stack, e = ranges.Fell(b.p, stack) })
		if !slices.Equal(stack, want) || e != api.OK {
			t.Fatalf("step %d: %v, %v, not %v", i, stack, e, want)
		}
	}
	b.empty()
}

// TestNil: without a pool.
func TestNil(t *testing.T) {
	for _, n := range []int{least, -1, 0, 1, 9, most} {
		if l, e := ranges.Scan(nil, n, n, n, n); len(l) > 0 || e != api.ErrArg {
			t.Errorf("Scan = %v, %v", l, e)
		}
		if root, many, e := ranges.Cut(nil, n, n, n, n); root != 0 || many != 0 || e != api.ErrArg {
			t.Errorf("Cut = %d, %d, %v", root, many, e)
		}
		if root, e := ranges.Clone(nil, n); root != 0 || e != api.ErrArg {
			t.Errorf("Clone = %d, %v", root, e)
		}
		for many := range 12 {
			if left, e := ranges.Fell(nil, slices.Repeat([]int{n}, many)); len(left) > 0 || e != api.ErrArg {
				t.Errorf("Fell = %v, %v", left, e)
			}
		}
	}
}

// TestIdle: without a transaction, whatever else is wrong.
func TestIdle(t *testing.T) {
	b := laid(t, 64)
	x := b.plants(each(1, 9, 1)...)
	was := b.state()
	for _, root := range []int{least, -1, 0, 1, x.root, 63, 64, most} {
		for _, many := range []int{least, -1, 0, 1, 2, 3, most} {
			if got, cut, e := ranges.Cut(b.p, root, 0, 9, many); got != 0 || cut != 0 || e != api.ErrIdle {
				t.Errorf("Cut = %d, %d, %v", got, cut, e)
			}
		}
		if got, e := ranges.Clone(b.p, root); got != 0 || e != api.ErrIdle {
			t.Errorf("Clone = %d, %v", got, e)
		}
		for many := range 12 {
			if left, e := ranges.Fell(b.p, slices.Repeat([]int{root}, many)); len(left) > 0 || e != api.ErrIdle {
				t.Errorf("Fell = %v, %v", left, e)
			}
		}
	}
	b.stays(was)
}
