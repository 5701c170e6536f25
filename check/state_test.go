package check_test

import (
	"bytes"
	"maps"
	"slices"

	"polder/api"
	"polder/check"
	"polder/codec"
)

// state is all that is told of a pool and its catalogue.
type state struct {
	counts    []int
	free      int
	under     bool
	pages     map[int]api.Page // those that the disk reads
	dirty     []int
	catalogue api.Catalogue
	list      []api.Volume
}

// state tells it; some pages are not asked for.
func (b *bench) state(without []int) state {
	b.Helper()
	x := state{pages: map[int]api.Page{}, free: b.p.Free(), under: b.p.Under(), dirty: b.p.Dirty(), catalogue: b.v.Catalogue(), list: b.v.List()}
	for n := range b.pages {
		x.counts = append(x.counts, b.p.Count(n))
		if page, e := b.p.Read(n); e == api.OK && !slices.Contains(without, n) {
			x.pages[n] = page
		}
	}
	return x
}

// samePage tells whether two pages are one.
func samePage(x, y api.Page) bool { return x.Kind == y.Kind && bytes.Equal(x.Body, y.Body) }

// stays asks that all is as it was.
func (b *bench) stays(was state) {
	b.Helper()
	x, y := b.state(nil), was
	if x.free != y.free || x.under != y.under || !slices.Equal(x.counts, y.counts) || !slices.Equal(x.dirty, y.dirty) || !slices.Equal(x.list, y.list) ||
		!maps.EqualFunc(x.pages, y.pages, samePage) ||
		x.catalogue.Next != y.catalogue.Next || !slices.Equal(x.catalogue.Volumes, y.catalogue.Volumes) || !slices.Equal(x.catalogue.Stack, y.catalogue.Stack) {
		b.Fatalf("all is %v, not %v", x, y)
	}
}

// loads is the node in a page; false, if there is none that may be.
func (x state) loads(n int) (api.Node, bool) {
	page, ok := x.pages[n]
	node, read := codec.GetNode(page.Body)
	if !ok || !read || page.Kind != map[bool]int{true: api.KindLeaf, false: api.KindInner}[node.Leaf] || !node.Leaf && len(node.Keys) == 0 {
		return api.Node{}, false
	}
	rising := slices.IsSorted(node.Keys) && len(slices.Compact(slices.Clone(node.Keys))) == len(node.Keys)
	return node, rising && !slices.Contains(node.Vals, 0)
}

// walk goes through all ways from the roots on.
type walk struct {
	x      state
	refs   map[int]int
	broken map[int]bool
	told   map[int]bool    // whose Vals have referred to pages
	stood  map[[2]int]bool // which nodes stood how deep
}

// way goes on from a place so deep.
func (w *walk) way(n, depth int) {
	if w.stood[[2]int{n, depth}] {
		return
	}
	w.stood[[2]int{n, depth}] = true
	node, ok := w.x.loads(n)
	ok = ok && depth < 9
	if all, loaded := w.x.loads(n); loaded && !w.told[n] {
		w.told[n] = true
		for _, val := range all.Vals {
			if val < len(w.x.counts) {
				w.refs[val]++
			}
		}
	}
	if !ok || slices.Max(append(node.Vals, 0)) >= len(w.x.counts) {
		w.broken[n] = true
		return
	}
	if !node.Leaf {
		for _, val := range node.Vals {
			w.way(val, depth+1)
		}
	}
}

// pages is how many pages of the pool are referred to.
func (w *walk) pages() int {
	many := 0
	for n := range w.refs {
		if n < len(w.x.counts) {
			many++
		}
	}
	return many
}

// report is what the chapter tells of a state, told once more.
func (x state) report() check.Report {
	w := &walk{x: x, refs: map[int]int{}, broken: map[int]bool{}, told: map[int]bool{}, stood: map[[2]int]bool{}}
	from := func(n int) {
		w.refs[n]++
		w.way(n, 0)
	}
	var r check.Report
	for _, state := range []int{api.VolumeLive, api.VolumeDying} {
		for _, v := range x.catalogue.Volumes {
			if v.State == state && v.Root != 0 {
				from(v.Root)
			}
		}
		if state == api.VolumeLive {
			r.Live = w.pages()
		}
	}
	for _, n := range x.catalogue.Stack {
		from(n)
	}
	r.Dying = w.pages() - r.Live
	for n, many := range x.counts {
		refs := w.refs[n]
		if n < firstPages(len(x.counts)) {
			refs++
		}
		if many > 0 {
			r.Used++
		}
		if many != refs {
			r.Wrong = append(r.Wrong, n)
		}
	}
	r.Broken = slices.Sorted(maps.Keys(w.broken))
	return r
}
