package sweep_test

import (
	"bytes"
	"slices"

	"polder/api"
	"polder/codec"
)

// state is all that is told of a pool and its catalogue.
type state struct {
	counts    []int
	free      int
	under     bool
	pages     []api.Page
	catalogue api.Catalogue
	list      []api.Volume
}

// state tells it.
func (b *bench) state() state {
	b.Helper()
	x := state{free: b.p.Free(), under: b.p.Under(), catalogue: b.v.Catalogue(), list: b.v.List()}
	for n := range b.pages {
		page, e := b.p.Read(n)
		b.is("Read", e, api.OK)
		x.counts, x.pages = append(x.counts, b.p.Count(n)), append(x.pages, page)
	}
	return x
}

// samePage tells whether two pages are one.
func samePage(x, y api.Page) bool { return x.Kind == y.Kind && bytes.Equal(x.Body, y.Body) }

// sameCatalogue tells whether two catalogues are one.
func sameCatalogue(x, y api.Catalogue) bool {
	return x.Next == y.Next && slices.Equal(x.Volumes, y.Volumes) && slices.Equal(x.Stack, y.Stack)
}

// is tells whether two states are one.
func (x state) is(y state) bool {
	return sameCatalogue(x.catalogue, y.catalogue) && slices.Equal(x.list, y.list) && x.free == y.free && x.under == y.under &&
		slices.Equal(x.counts, y.counts) && slices.EqualFunc(x.pages, y.pages, samePage)
}

// stays asks that all is as it was.
func (b *bench) stays(was state) {
	b.Helper()
	now := b.state()
	if now.is(was) {
		return
	}
	for n := range was.pages {
		if now.counts[n] != was.counts[n] || !samePage(now.pages[n], was.pages[n]) {
			b.Errorf("page %d is %v, %d times, not %v, %d times", n, now.pages[n], now.counts[n], was.pages[n], was.counts[n])
		}
	}
	b.Fatalf("%v, %d pages free, under way: %v; not %v, %d, %v", now.catalogue, now.free, now.under, was.catalogue, was.free, was.under)
}

// node is the node in a page.
func (x state) node(n int) api.Node {
	node, _ := codec.GetNode(x.pages[n].Body)
	return node
}

// next is what a step is to make of it, the chapter told once more; and whether there is anything to do.
func (x state) next() (state, bool) {
	x.counts, x.pages = slices.Clone(x.counts), slices.Clone(x.pages)
	c := &x.catalogue
	c.Volumes = slices.Clone(c.Volumes)
	if len(c.Stack) > 0 {
		c.Stack = x.felled(c.Stack)
	} else {
		at := slices.IndexFunc(c.Volumes, func(v api.Volume) bool { return v.State == api.VolumeDying })
		if at < 0 {
			return x, false
		}
		if root := c.Volumes[at].Root; root != 0 {
			c.Stack = []int{root}
		}
		c.Volumes[at] = api.Volume{}
	}
	x.written()
	return x, true
}

// felled is what is left of a stack; counts and the node that is written are changed for it.
func (x state) felled(stack []int) []int {
	r, rest := stack[len(stack)-1], slices.Clone(stack[:len(stack)-1])
	if x.counts[r] > 1 {
		x.counts[r]--
		return rest
	}
	node := x.node(r)
	if node.Leaf {
		for _, val := range node.Vals {
			x.counts[val]--
		}
		x.counts[r]--
		return rest
	}
	last := len(node.Vals) - 1
	child := node.Vals[last]
	if last == 0 {
		x.counts[r]--
		return append(rest, child)
	}
	body, _ := codec.PutNode(api.Node{Keys: node.Keys[:last], Vals: node.Vals[:last]})
	x.pages[r] = api.Page{Kind: api.KindInner, Body: body}
	return append(rest, r, child)
}

// written has the first pages be as the catalogue and the counts are, and the free pages be counted.
func (x *state) written() {
	body, _ := codec.PutCatalogue(x.catalogue)
	x.pages[0] = api.Page{Kind: api.KindCatalogue, Body: body}
	padded := append(slices.Clone(x.counts), make([]int, 119)...)
	for n := 1; n < firstPages(len(x.pages)); n++ {
		body, _ := codec.PutCounts(padded[120*(n-1) : 120*n])
		x.pages[n] = api.Page{Kind: api.KindCounts, Body: body}
	}
	x.free = 0
	for _, many := range x.counts {
		if many == 0 {
			x.free++
		}
	}
}

// refers adds how often pages are referred to by the nodes from a page on, each of which counts once.
func (x state) refers(n int, refs []int, seen map[int]bool) {
	if n == 0 {
		return
	}
	refs[n]++
	if seen[n] {
		return
	}
	seen[n] = true
	node := x.node(n)
	for _, val := range node.Vals {
		if node.Leaf {
			refs[val]++
		} else {
			x.refers(val, refs, seen)
		}
	}
}

// references are how often each page is referred to: by the first pages' being there, by the test, and by volumes that a question chooses; and by what is on the stack.
func (x state) references(held map[int]int, of func(api.Volume) bool) []int {
	refs, seen := make([]int, len(x.pages)), map[int]bool{}
	for n := range firstPages(len(x.pages)) {
		refs[n] = 1
	}
	for n, many := range held {
		refs[n] += many
	}
	for _, v := range x.catalogue.Volumes {
		if of(v) {
			x.refers(v.Root, refs, seen)
		}
	}
	for _, n := range x.catalogue.Stack {
		x.refers(n, refs, seen)
	}
	return refs
}

// sound asks whether each page has as many references as its count says.
func (b *bench) sound() {
	b.Helper()
	x := b.state()
	refs := x.references(b.held, func(api.Volume) bool { return true })
	if !slices.Equal(refs, x.counts) {
		b.Fatalf("the pages have %v references, and %v are their counts", refs, x.counts)
	}
}

// swept asks whether all was given back that deleted volumes had, and nothing else.
func (b *bench) swept() {
	b.Helper()
	x := b.state()
	for _, v := range x.catalogue.Volumes {
		if v.State != api.VolumeLive && v != (api.Volume{}) {
			b.Errorf("there is %v", v)
		}
	}
	if len(x.catalogue.Stack) > 0 {
		b.Errorf("the stack is %v", x.catalogue.Stack)
	}
	refs := x.references(b.held, func(v api.Volume) bool { return v.State == api.VolumeLive })
	if !slices.Equal(refs, x.counts) {
		b.Fatalf("the pages have %v references, and %v are their counts", refs, x.counts)
	}
	free := 0
	for _, many := range refs {
		if many == 0 {
			free++
		}
	}
	if x.free != free || x.under {
		b.Errorf("%d pages are free, not %d; a transaction is under way: %v", x.free, free, x.under)
	}
}
