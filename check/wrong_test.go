package check_test

import (
	"slices"
	"testing"

	"polder/api"
	"polder/check"
)

// TestWrongEach: each page in use whose count is put too high by one or two, or too low, by hand.
func TestWrongEach(t *testing.T) {
	b := tall(t)
	b.deletes(2)
	b.creates()
	b.writes(3, 0, 12)
	b.deletes(3)
	b.sweeps(2)
	whole := b.look()
	lost := b.hand(data()) // nothing reaches it
	shared := 0
	for n := 3; n < b.pages; n++ {
		was := b.p.Count(n)
		if was == 0 {
			continue
		}
		if was > 1 {
			shared++
		}
		for _, by := range []int{2, 1, -1} {
			if n == lost {
				break
			}
			b.begins()
			for range by {
				b.is("Ref", b.p.Ref(n), api.OK)
			}
			if by < 0 {
				b.is("Unref", b.p.Unref(n), api.OK)
			}
			want := check.Report{Used: whole.Used + 1, Live: whole.Live, Dying: whole.Dying, Wrong: []int{n, lost}}
			if was+by == 0 {
				want.Used--
			}
			slices.Sort(want.Wrong)
			b.finds(want)
			b.p.Abort()
		}
	}
	if shared < 3 {
		t.Errorf("%d pages were shared", shared)
	}
	b.refs(lost, 3)
	b.finds(check.Report{Used: whole.Used + 1, Live: whole.Live, Dying: whole.Dying, Wrong: []int{lost}})
	b.refs(lost, -4)
	b.finds(whole)
}

// TestWrongMany: several are told rising, each once; behind an Open, too.
func TestWrongMany(t *testing.T) {
	b := laid(t, 200)
	b.creates()
	b.writes(1, 0, 30)
	whole := b.look()
	var want []int
	for _, n := range []int{30, 9, 4, 17, 22} {
		by := 1
		if n%2 == 0 {
			by = -1
		}
		b.refs(n, by)
		want = append(want, n)
		slices.Sort(want)
		got := b.look()
		if !slices.Equal(got.Wrong, want) || got.Live != whole.Live || len(got.Broken) > 0 {
			t.Errorf("Look = %v, not %v", got, want)
		}
	}
	if got := b.look(); got.Used != whole.Used-3 {
		t.Errorf("Look = %v", got)
	}
	was := b.look()
	b.syncs()
	b.opens()
	b.finds(was)
}

// TestWrongRefs: pages are referred to as often as nodes, Roots and places of the stack do; by a node that is reached on several ways once.
func TestWrongRefs(t *testing.T) {
	b := laid(t, 64)
	block, other := b.hand(data()), b.hand(data())
	leaf := b.leaf(block, block, other, block)
	b.rooted(api.VolumeLive, leaf)
	b.finds(check.Report{Used: 5, Live: 3, Wrong: []int{block}})
	b.refs(block, 2)
	b.counts(3, 0)
	root := b.inner(leaf, leaf)
	b.rooted(api.VolumeLive, root)
	b.finds(check.Report{Used: 6, Live: 4, Wrong: []int{leaf}}) // what is below it is referred to once
	b.refs(leaf, 1)
	b.counts(4, 0)
	b.rooted(api.VolumeLive, root, leaf, root)
	b.finds(check.Report{Used: 6, Live: 4, Wrong: []int{leaf, root}})
	b.refs(leaf, 1)
	b.refs(root, 1)
	b.counts(4, 0)
	above := b.inner(root)
	b.changes(func(c *api.Catalogue) {
		c.Volumes[3] = api.Volume{ID: 4, State: api.VolumeDying, Size: 9, Root: above}
		c.Stack = []int{leaf, above}
	})
	b.finds(check.Report{Used: 7, Live: 4, Dying: 1, Wrong: []int{leaf, root, above}})
	b.refs(leaf, 1)
	b.refs(root, 1)
	b.refs(above, 1)
	b.counts(4, 1)
}

// TestWrongFirst: the catalogue and the pages of counts, to which a node, a Root or a place of the stack refers.
func TestWrongFirst(t *testing.T) {
	b := laid(t, 250)
	b.rooted(api.VolumeLive, b.leaf(1, 3, 1))
	b.finds(check.Report{Used: 5, Live: 3, Wrong: []int{1, 3}})
	b.rooted(api.VolumeDying, b.leaf(2), 2)
	b.changes(func(c *api.Catalogue) { c.Stack = []int{0} })
	b.finds(check.Report{Used: 6, Dying: 3, Wrong: []int{0, 2, 4}, Broken: []int{0, 2}})
}

// TestWrongReached: pages that are reached and not in use.
func TestWrongReached(t *testing.T) {
	b := laid(t, 64)
	first, second := b.hand(data()), b.hand(data())
	leaf := b.leaf(first, second, 50)
	b.rooted(api.VolumeLive, leaf)
	b.finds(check.Report{Used: 5, Live: 4, Wrong: []int{50}})
	b.refs(first, -1)
	b.finds(check.Report{Used: 4, Live: 4, Wrong: []int{first, 50}})
	b.refs(leaf, -1) // its node is there still
	b.finds(check.Report{Used: 3, Live: 4, Wrong: []int{first, leaf, 50}})
}
