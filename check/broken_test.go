package check_test

import (
	"bytes"
	"math/rand/v2"
	"slices"
	"testing"

	"polder/api"
	"polder/check"
	"polder/codec"
	"polder/crc"
	"polder/tree"
)

// fresh takes a page by hand, in a transaction that is under way.
func (b *bench) fresh(x api.Page) int {
	b.Helper()
	n, e := b.p.Fresh(x)
	b.is("Fresh", e, api.OK)
	return n
}

// hand writes a page by hand, which one reference is counted of.
func (b *bench) hand(x api.Page) int {
	b.Helper()
	b.begins()
	n := b.fresh(x)
	b.commits()
	return n
}

// fills takes all pages that are free.
func (b *bench) fills() {
	b.Helper()
	for b.p.Free() > 0 {
		b.hand(data())
	}
}

// over writes another page over one.
func (b *bench) over(n int, x api.Page) {
	b.Helper()
	b.begins()
	b.is("Write", b.p.Write(n, x), api.OK)
	b.commits()
}

// refs has a page be referred to more often by hand, or less.
func (b *bench) refs(n, by int) {
	b.Helper()
	b.begins()
	for ; by > 0; by-- {
		b.is("Ref", b.p.Ref(n), api.OK)
	}
	for ; by < 0; by++ {
		b.is("Unref", b.p.Unref(n), api.OK)
	}
	b.commits()
}

// data is a block's page.
func data() api.Page {
	return api.Page{Kind: api.KindData, Body: append(bytes.Repeat([]byte{7}, 64), make([]byte, 176)...)}
}

// page is a node's page, with the Keys from nought on.
func (b *bench) page(leaf bool, vals ...int) api.Page {
	b.Helper()
	x := api.Node{Leaf: leaf, Vals: vals}
	for i := range vals {
		x.Keys = append(x.Keys, i)
	}
	page, e := tree.Save(x)
	b.is("Save", e, api.OK)
	return page
}

func (b *bench) leaf(vals ...int) int  { b.Helper(); return b.hand(b.page(true, vals...)) }
func (b *bench) inner(vals ...int) int { b.Helper(); return b.hand(b.page(false, vals...)) }

// rooted has the first places be volumes with these roots, live ones or dying ones.
func (b *bench) rooted(state int, roots ...int) {
	b.Helper()
	b.changes(func(c *api.Catalogue) {
		c.Next = 9
		c.Volumes = make([]api.Volume, 8)
		for i, root := range roots {
			c.Volumes[i] = api.Volume{ID: 1 + i, State: state, Size: 1000, Quota: 1000, Root: root}
		}
	})
}

// tall is a pool with a volume whose tree has three levels, and a snapshot that has some nodes of its own.
func tall(t *testing.T) *bench {
	t.Helper()
	b := laid(t, 130)
	b.creates()
	b.writes(1, 0, 60)
	b.snapshots(1)
	b.writes(2, 50, 5)
	if x := b.node(b.node(b.root(0)).Vals[0]); x.Leaf {
		t.Fatal("the tree has two levels")
	}
	return b
}

// others are pages that are no node's, or no such as may be.
func (b *bench) others() []api.Page {
	b.Helper()
	counts, _ := b.p.Read(1)
	catalogue, _ := b.p.Read(0)
	leaf, inner := b.page(true, 5), b.page(false, 5)
	body := func(kind int, leaf bool, keys, vals []int) api.Page {
		x, e := codec.PutNode(api.Node{Leaf: leaf, Keys: keys, Vals: vals})
		b.is("PutNode", e, api.OK)
		return api.Page{Kind: kind, Body: x}
	}
	return []api.Page{
		data(), counts, catalogue,
		{Kind: api.KindInner, Body: leaf.Body}, {Kind: api.KindLeaf, Body: inner.Body}, {Kind: api.KindData, Body: leaf.Body},
		{Kind: api.KindLeaf, Body: make([]byte, 240)}, {Kind: api.KindInner, Body: make([]byte, 240)},
		body(api.KindLeaf, true, []int{1, 2}, []int{9, 0}), body(api.KindInner, false, []int{1, 2}, []int{0, 9}), // no Val is the catalogue
		body(api.KindLeaf, true, []int{2, 1}, []int{8, 9}), body(api.KindInner, false, []int{2, 2}, []int{8, 9}),
	}
}

// TestSpoilt: each node of a tree, in which something else lies: it is broken, and what is below it alone is not reached.
func TestSpoilt(t *testing.T) {
	b := tall(t)
	all := slices.Concat(b.nodes(b.root(0)), b.nodes(b.root(1)))
	slices.Sort(all)
	whole := b.look()
	for _, n := range slices.Compact(all) {
		was, _ := b.p.Read(n)
		for _, other := range b.others() {
			b.over(n, other)
			got := b.look()
			if !slices.Equal(got.Broken, []int{n}) || got.Used != whole.Used || got.Live+len(got.Wrong) < whole.Live || len(got.Wrong) == 0 || slices.Contains(got.Wrong, n) {
				t.Fatalf("%v in page %d: Look = %v", other, n, got)
			}
		}
		b.over(n, was)
	}
	b.finds(whole)
}

// TestSpoiltRoot: a volume whose root is broken reaches that alone.
func TestSpoiltRoot(t *testing.T) {
	b := laid(t, 64)
	b.creates()
	b.writes(1, 0, 3)
	root := b.root(0)
	b.over(root, data())
	var below []int
	for n := 2; n < 64; n++ {
		if n != root && b.p.Count(n) > 0 {
			below = append(below, n)
		}
	}
	b.finds(check.Report{Used: 6, Live: 1, Wrong: below, Broken: []int{root}})
	b.snapshots(1)
	b.deletes(1)
	b.finds(check.Report{Used: 6, Live: 1, Wrong: below, Broken: []int{root}})
	b.deletes(2)
	b.finds(check.Report{Used: 6, Dying: 1, Wrong: below, Broken: []int{root}})
	b.sweeps(1)
	b.finds(check.Report{Used: 6, Dying: 1, Wrong: below, Broken: []int{root}}) // it is on the stack, too
}

// TestSpoiltSectors: what the disk has of a node is noughts, other bytes, or another page: it is broken.
func TestSpoiltSectors(t *testing.T) {
	b := tall(t)
	b.checkpoint()
	whole := b.look()
	var flags []int
	nodes := b.nodes(b.root(0))
	for _, n := range nodes {
		home := 2 + n
		was, _ := b.d.Read(home, 1)
		flipped := bytes.Clone(was)
		flipped[100] ^= 4
		another, _ := b.d.Read(2+nodes[0]+nodes[1]-n, 1)
		renumbered, e := codec.PutPage(crc.New(), api.Image{Number: n + 1, Page: b.page(true, 9)})
		b.is("PutPage", e, api.OK)
		for i, sector := range [][]byte{make([]byte, 256), bytes.Repeat([]byte{255}, 256), flipped, another, renumbered} {
			if bytes.Equal(sector, was) || i == 3 && n != nodes[0] && n != nodes[1] {
				continue
			}
			b.is("Write", b.d.Write(home, sector, true), api.OK)
			if got := b.look(); !slices.Equal(got.Broken, []int{n}) {
				t.Fatalf("sector %d in page %d: Look = %v", i, n, got)
			}
			flags = append(flags, i)
		}
		b.is("Write", b.d.Write(home, was, true), api.OK)
	}
	b.finds(whole)
	for i := range 5 {
		if !slices.Contains(flags, i) {
			t.Errorf("sector %d was not tried", i)
		}
	}
}

// TestSpoiltData: what lies in a block's page is not looked at.
func TestSpoiltData(t *testing.T) {
	b := tall(t)
	b.checkpoint()
	whole := b.look()
	leaf := b.nodes(b.root(0))[2]
	for _, n := range b.node(leaf).Vals {
		b.is("Write", b.d.Write(2+n, bytes.Repeat([]byte{9}, 256), true), api.OK)
	}
	if got, e := check.Look(b.v); !same(got, whole) || e != api.OK {
		t.Errorf("Look = %v, %v", got, e)
	}
	for _, n := range b.node(leaf).Vals {
		b.over(n, b.page(false, 3))
	}
	b.finds(whole)
}

// TestReadFails: each read that the disk does not do makes the node that was to be read broken, and each node is read once.
func TestReadFails(t *testing.T) {
	b := tall(t)
	b.deletes(2)
	b.sweeps(1)
	b.creates()
	b.writes(3, 0, 10)
	all := slices.Concat(b.nodes(b.root(0)), b.nodes(b.root(1)), b.nodes(b.v.Catalogue().Stack[0]))
	slices.Sort(all)
	all = slices.Compact(all)
	b.checkpoint()
	whole := b.look()
	var seen []int
	for n := 1; n <= len(all)+1; n++ {
		b.is("Fail", b.d.Fail(api.FailRead, n), api.OK)
		got, e := check.Look(b.v)
		b.is("Fail", b.d.Fail(api.FailRead, never), api.OK)
		b.is("Look", e, api.OK)
		if n > len(all) {
			if !same(got, whole) {
				t.Errorf("of %d nodes %d were read: Look = %v", len(all), n, got)
			}
			break
		}
		if len(got.Broken) != 1 || !same(got, b.state(got.Broken).report()) {
			t.Fatalf("read %d: Look = %v", n, got)
		}
		seen = append(seen, got.Broken...)
	}
	slices.Sort(seen)
	if !slices.Equal(seen, all) {
		t.Errorf("%v were read, not %v", seen, all)
	}
}

// TestVals: of a leaf, one Val is no page of the pool: it is broken; the others are its blocks' pages.
func TestVals(t *testing.T) {
	for _, val := range []int{64, 65, 100, 1023} {
		for at := range 3 {
			b := laid(t, 64)
			vals := []int{b.hand(data()), b.hand(data()), 63}
			b.fills()
			b.begins()
			for n := 4; n < 63; n++ {
				b.is("Unref", b.p.Unref(n), api.OK)
			}
			b.commits()
			root := b.leaf(vals...)
			b.rooted(api.VolumeLive, root)
			b.counts(4, 0) // the last page is one of the pool
			bad := slices.Clone(vals)
			bad[at] = val
			b.over(root, b.page(true, bad...))
			b.finds(check.Report{Used: 6, Live: 3, Wrong: vals[at : at+1], Broken: []int{root}})
		}
	}
	b := laid(t, 1024) // each Val that there may be is a page of it
	b.rooted(api.VolumeLive, b.leaf(1023, 1022))
	b.finds(check.Report{Used: 11, Live: 3, Wrong: []int{1022, 1023}})
}

// TestValsInner: of an inner node, one Val is no page of the pool: it is broken, and nothing is gone through below it.
func TestValsInner(t *testing.T) {
	for _, val := range []int{64, 1023} {
		for at := range 2 {
			b := laid(t, 64)
			first, second := b.hand(data()), b.hand(data())
			vals := []int{b.leaf(first), b.leaf(second)}
			root := b.inner(vals...)
			b.rooted(api.VolumeLive, root)
			b.counts(5, 0)
			bad := slices.Clone(vals)
			bad[at] = val
			b.over(root, b.page(false, bad...))
			b.finds(check.Report{Used: 7, Live: 2, Wrong: []int{first, second, vals[at]}, Broken: []int{root}})
			b.over(vals[1-at], data())
			b.finds(check.Report{Used: 7, Live: 2, Wrong: []int{first, second, vals[at]}, Broken: []int{root}}) // it is not loaded
		}
	}
}

// TestValsFirst: a page of the counts, to which a Val refers, is a page of the pool: its count is wrong, and no node is there.
func TestValsFirst(t *testing.T) {
	for _, n := range []int{1, 2} {
		b := laid(t, 130)
		block := b.hand(data())
		leaf := b.leaf(block, n)
		b.rooted(api.VolumeLive, leaf)
		b.finds(check.Report{Used: 5, Live: 3, Wrong: []int{n}})
		b.over(leaf, b.page(false, n))
		b.finds(check.Report{Used: 5, Live: 2, Wrong: []int{n, block}, Broken: []int{n}})
	}
}

// TestRoots: what the catalogue refers to is a node, wherever it is.
func TestRoots(t *testing.T) {
	b := laid(t, 64)
	block := b.hand(data())
	for _, state := range []int{api.VolumeLive, api.VolumeDying} {
		inState := func(many int) (int, int) {
			if state == api.VolumeLive {
				return many, 0
			}
			return 0, many
		}
		b.rooted(state, block)
		live, dying := inState(1)
		b.finds(check.Report{Used: 3, Live: live, Dying: dying, Broken: []int{block}})
		b.rooted(state, 1, block)
		live, dying = inState(2)
		b.finds(check.Report{Used: 3, Live: live, Dying: dying, Wrong: []int{1}, Broken: []int{1, block}})
		for _, root := range []int{64, 1023} { // no page of the pool
			b.rooted(state, block, root, root)
			live, dying = inState(1)
			b.finds(check.Report{Used: 3, Live: live, Dying: dying, Broken: []int{block, root}})
		}
		b.rooted(state, block, 63, 63) // a page that was never written
		live, dying = inState(2)
		b.finds(check.Report{Used: 3, Live: live, Dying: dying, Wrong: []int{63}, Broken: []int{block, 63}})
	}
	b.rooted(api.VolumeNone, block, 63) // of no volume
	b.finds(check.Report{Used: 3, Wrong: []int{block}})
	b.rooted(api.VolumeLive, 0, 0) // nothing is mapped
	b.finds(check.Report{Used: 3, Wrong: []int{block}})
}

// TestStackPlaces: each place of the stack refers to a page, to the catalogue too.
func TestStackPlaces(t *testing.T) {
	b := laid(t, 64)
	block := b.hand(data())
	leaf := b.leaf(block)
	stacked := func(l ...int) { b.changes(func(c *api.Catalogue) { c.Stack = l }) }
	stacked(leaf)
	b.counts(0, 2)
	stacked(leaf, leaf, leaf)
	b.finds(check.Report{Used: 4, Dying: 2, Wrong: []int{leaf}})
	b.refs(leaf, 2)
	b.counts(0, 2)
	stacked(leaf, leaf, leaf, 0)
	b.finds(check.Report{Used: 4, Dying: 3, Wrong: []int{0}, Broken: []int{0}})
	stacked(64, 0, leaf, 1, 700, leaf, leaf, 0)
	b.finds(check.Report{Used: 4, Dying: 4, Wrong: []int{0, 1}, Broken: []int{0, 1, 64, 700}})
	stacked(block, leaf, leaf, leaf) // as a node, and as a block
	b.finds(check.Report{Used: 4, Dying: 2, Wrong: []int{block}, Broken: []int{block}})
}

// TestTwoWays: a page that is reached as a node on one way, and as a block's on another, is gone through, and counted once.
func TestTwoWays(t *testing.T) {
	b := laid(t, 64)
	block := b.hand(data())
	leaf := b.leaf(block)
	other := b.leaf(leaf)
	b.rooted(api.VolumeLive, other) // as a block's alone: it is not gone through
	b.finds(check.Report{Used: 5, Live: 2, Wrong: []int{block}})
	for _, roots := range [][]int{{leaf, other}, {other, leaf}} {
		b.rooted(api.VolumeLive, roots...)
		b.finds(check.Report{Used: 5, Live: 3, Wrong: []int{leaf}})
		b.refs(leaf, 1)
		b.counts(3, 0)
		b.refs(leaf, -1)
	}
	b.rooted(api.VolumeLive, other)
	b.changes(func(c *api.Catalogue) { c.Stack = []int{leaf} })
	b.finds(check.Report{Used: 5, Live: 2, Dying: 1, Wrong: []int{leaf}}) // a live one reaches the page, but not as a node
	b.over(leaf, data())
	b.finds(check.Report{Used: 5, Live: 2, Wrong: []int{block, leaf}, Broken: []int{leaf}})
}

// chain is a chain of inner nodes, with a leaf of one block at its end, so many nodes below the first one: its nodes, the first one first, and the block.
func (b *bench) chain(below int) ([]int, int) {
	b.Helper()
	block := b.hand(data())
	l := []int{b.leaf(block)}
	for range below {
		l = slices.Insert(l, 0, b.inner(l[0]))
	}
	return l, block
}

// TestDeep: a leaf's place may be eight nodes below a root; one that is deeper is broken, and nothing is gone through below it.
func TestDeep(t *testing.T) {
	for below := range 14 {
		for _, state := range []int{api.VolumeLive, api.VolumeDying} {
			b := laid(t, 64)
			l, block := b.chain(below)
			b.rooted(state, l[0])
			want := check.Report{Used: 2 + below + 2, Live: below + 2}
			if below > 8 {
				want.Broken, want.Live = l[9:10], 11 // with what its Val refers to
				want.Wrong = append(want.Wrong, l[min(11, len(l)):]...)
				if below > 9 {
					want.Wrong = append(want.Wrong, block)
				}
				slices.Sort(want.Wrong)
			}
			if state == api.VolumeDying {
				want.Live, want.Dying = 0, want.Live
			}
			b.finds(want)
			b.rooted(state)
			b.changes(func(c *api.Catalogue) { c.Stack = l[:1] })
			want.Live, want.Dying = 0, want.Live+want.Dying
			b.finds(want)
		}
	}
}

// TestDeepElsewhere: a node that is too deep below one root, and not below another one, is broken, whichever of them comes first; from the other one on all is gone through.
func TestDeepElsewhere(t *testing.T) {
	for below := 9; below < 14; below++ {
		for at := 1; at < below; at++ {
			b := laid(t, 64)
			l, _ := b.chain(below)
			b.refs(l[at], 1)
			for _, roots := range [][]int{{l[0], l[at]}, {l[at], l[0]}} {
				b.rooted(api.VolumeLive, roots...)
				got := b.look()
				if !slices.Contains(got.Broken, l[9]) || len(got.Broken) > 2 {
					t.Errorf("%d below, from %d on: Look = %v", below, at, got)
				}
				if at >= below-8 && at <= 9 && (len(got.Wrong) > 0 || got.Live != below+2) {
					t.Errorf("%d below, from %d on: Look = %v", below, at, got)
				}
			}
			b.rooted(api.VolumeDying, l[0])
			b.changes(func(c *api.Catalogue) {
				c.Volumes[1] = api.Volume{ID: 7, State: api.VolumeLive, Size: 9, Root: l[at]}
			})
			if got := b.look(); !slices.Contains(got.Broken, l[9]) || got.Live == 0 {
				t.Errorf("%d below, from %d on: Look = %v", below, at, got)
			}
		}
	}
}

// TestRing: trees that come back to a node above have no end; a look has one, and tells of a node that is too deep.
func TestRing(t *testing.T) {
	b := laid(t, 64)
	block := b.hand(data())
	leaf := b.leaf(block)
	one, two, three := b.inner(leaf), b.inner(leaf), b.inner(leaf)
	b.rooted(api.VolumeLive, one)
	b.over(one, b.page(false, one))
	b.finds(check.Report{Used: 7, Live: 1, Wrong: []int{block, leaf, one, two, three}, Broken: []int{one}})
	b.over(one, b.page(false, one, leaf))
	b.refs(one, 1)
	b.finds(check.Report{Used: 7, Live: 3, Wrong: []int{two, three}, Broken: []int{leaf, one}})
	b.over(one, b.page(false, two))
	b.over(two, b.page(false, one))
	b.finds(check.Report{Used: 7, Live: 2, Wrong: []int{block, leaf, three}, Broken: []int{two}})
	b.over(two, b.page(false, leaf, three))
	b.over(three, b.page(false, leaf, one))
	b.refs(leaf, 1)
	if got := b.look(); got.Live != 5 || len(got.Wrong) > 0 || len(got.Broken) == 0 {
		t.Errorf("Look = %v", got)
	}
}

// TestRingWide: eight nodes of which each stands below each, eight times over: a look is soon over.
func TestRingWide(t *testing.T) {
	b := laid(t, 64)
	var l []int
	for range 8 {
		l = append(l, b.hand(data()))
	}
	for _, n := range l {
		b.over(n, b.page(false, l...))
	}
	b.rooted(api.VolumeLive, l[:4]...)
	b.changes(func(c *api.Catalogue) { c.Stack = l })
	b.finds(check.Report{Used: 10, Live: 8, Wrong: l, Broken: l})
}

// TestBrokenMany: they are told rising, each once, by however many ways they are reached.
func TestBrokenMany(t *testing.T) {
	b := laid(t, 64)
	block := b.hand(data())
	b.refs(block, 7)
	bad := b.leaf(70, block)
	first, second, third := b.inner(bad, block, 1), b.inner(block, bad), b.inner(80, 90)
	b.refs(bad, 1)
	b.rooted(api.VolumeLive, third, second, 60, first, second)
	b.changes(func(c *api.Catalogue) { c.Stack = []int{bad, 50, bad, first} })
	got := b.look()
	if want := []int{1, block, bad, third, 50, 60}; !slices.Equal(got.Broken, want) {
		t.Errorf("Look = %v, not %v", got, want)
	}
}

// TestWild: whatever lies in nodes' pages, and whatever refers to them.
func TestWild(t *testing.T) {
	r := rand.New(rand.NewPCG(17, 1))
	broken, wrong, clean := 0, 0, 0
	for range 600 {
		b := laid(t, 16+r.IntN(30))
		b.fills()
		pages := 2 + r.IntN(b.pages-1)
		for n := 2; n < b.pages; n++ {
			vals := make([]int, r.IntN(4))
			for i := range vals {
				vals[i] = 1 + r.IntN(pages)
				if r.IntN(5) > 0 {
					vals[i] = 2 + r.IntN(b.pages-2)
				}
			}
			b.begins()
			if k := r.IntN(8); k < 7 && (k > 3 || len(vals) > 0) {
				b.is("Write", b.p.Write(n, b.page(k > 3, vals...)), api.OK)
			}
			for range r.IntN(3) {
				b.is("Ref", b.p.Ref(n), api.OK)
			}
			if r.IntN(4) == 0 {
				b.is("Unref", b.p.Unref(n), api.OK)
			}
			b.commits()
		}
		b.changes(func(c *api.Catalogue) {
			for i := range r.IntN(5) {
				c.Volumes[i] = api.Volume{ID: 1 + i, State: r.IntN(3), Size: 9, Root: r.IntN(b.pages + 2)}
			}
			for range r.IntN(4) {
				c.Stack = append(c.Stack, r.IntN(b.pages+2))
			}
		})
		switch got := b.look(); {
		case len(got.Broken) > 0:
			broken++
		case len(got.Wrong) > 0:
			wrong++
		default:
			clean++
		}
	}
	if broken < 100 || wrong < 50 {
		t.Errorf("%d were broken, %d wrong, %d neither", broken, wrong, clean)
	}
}
