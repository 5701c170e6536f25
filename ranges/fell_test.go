package ranges_test

import (
	"math/rand/v2"
	"slices"
	"testing"

	"polder/api"
	"polder/ranges"
)

// step is what one of Fell comes to: the stack that is left, how counts change, and the node that is written (0: none) as it is then.
type step struct {
	left   []int
	counts map[int]int
	wrote  int
	as     api.Node
}

// foretold is the chapter told once more.
func (b *bench) foretold(stack []int) step {
	b.Helper()
	if len(stack) == 0 {
		return step{}
	}
	r, rest := stack[len(stack)-1], slices.Clone(stack[:len(stack)-1])
	s := step{left: rest, counts: map[int]int{}}
	if b.p.Count(r) > 1 {
		s.counts[r]--
		return s
	}
	x := b.node(r)
	if x.Leaf {
		for _, val := range append(x.Vals, r) {
			s.counts[val]--
		}
		return s
	}
	last := len(x.Vals) - 1
	if last == 0 {
		s.left, s.counts[r] = append(rest, x.Vals[0]), -1
		return s
	}
	s.left, s.wrote, s.as = append(rest, r, x.Vals[last]), r, api.Node{Keys: x.Keys[:last], Vals: x.Vals[:last]}
	return s
}

// lent is a list within a longer one, which is not to be changed.
func lent(l []int) (part, whole []int) {
	whole = append(append([]int{-71}, l...), -72, -73)
	return whole[1 : 1+len(l)], whole
}

// fell does one step of the stack, in a transaction that is under way, and asks whether it is the one that was foretold: no other page, no other count.
func (b *bench) fell() {
	b.Helper()
	was, want := b.state(), b.foretold(b.stack)
	handed, whole := lent(b.stack)
	before := slices.Clone(whole)
	left, e := ranges.Fell(b.p, handed)
	if !slices.Equal(left, want.left) || e != api.OK || !slices.Equal(whole, before) {
		b.Fatalf("Fell(%v) = %v, %v, not %v; handed in: %v", b.stack, left, e, want.left, whole)
	}
	b.stack = left
	changes := 0
	for n, x := range was.pages {
		if got := b.p.Count(n); got != was.counts[n]+want.counts[n] {
			b.Fatalf("the count of page %d became %d from %d", n, got, was.counts[n])
		}
		changes -= want.counts[n]
		if n == want.wrote && n > 0 {
			x = nodePage(want.as)
		}
		if got, e := b.p.Read(n); !samePage(got, x) || e != api.OK {
			b.Fatalf("page %d is %v, %v", n, got, e)
		}
	}
	if changes > 10 {
		b.Fatalf("%d counts were changed", changes)
	}
}

// fells does it in a transaction of its own, in which but for the counts one node is written at most.
func (b *bench) fells() {
	b.Helper()
	b.checkpoint()
	want := b.foretold(b.stack).wrote
	b.does(b.fell)
	for _, n := range b.p.Dirty() {
		if n >= b.firstPages() && n != want {
			b.Fatalf("page %d was written, not %d", n, want)
		}
	}
	b.sound()
}

// fellsAll goes on till the stack is empty, and tells how many steps that were.
func (b *bench) fellsAll() int {
	b.Helper()
	steps := 0
	for ; len(b.stack) > 0; steps++ {
		b.fells()
		if len(b.stack) > 8 {
			b.Fatalf("the stack is %v", b.stack)
		}
	}
	return steps
}

// TestFell: trees of any number of levels, alone, come to nothing within twice as many steps as they have nodes.
func TestFell(t *testing.T) {
	for i, many := range []int{0, 1, 7, 8, 9, 10, 17, 33, 60, 150, 155} {
		b := laid(t, 300)
		keys := mixed(many)
		if i%2 == 1 {
			keys = each(10, many, 10)
		}
		x := b.plants(keys...)
		nodes := len(b.nodes(x.root))
		b.gives(x)
		if steps := b.fellsAll(); steps > 2*nodes || steps < nodes {
			t.Errorf("%d keys, %d nodes: %d steps", many, nodes, steps)
		}
		b.empty()
	}
}

// TestFellTall: of as many levels as there may be.
func TestFellTall(t *testing.T) {
	b := laid(t, 1024)
	x := &kept{m: map[int]int{}}
	val := 0
	for key := 10; b.p.Free() > 30; key += 10 {
		if val == 0 || b.p.Count(val) > 900 {
			val = b.holds(data(1))
		}
		b.does(func() {
			b.is("Ref", b.p.Ref(val), api.OK)
			b.put(x, key, val)
		})
	}
	nodes, levels := b.nodes(x.root), b.levels(x.root)
	highest, steps := 0, 0
	b.stack = []int{x.root}
	for ; len(b.stack) > 0; steps++ {
		b.does(func() {
			left, e := ranges.Fell(b.p, b.stack)
			b.is("Fell", e, api.OK)
			b.stack = left
		})
		highest = max(highest, len(b.stack))
		if steps%50 == 0 {
			b.sound()
		}
	}
	if levels != 6 || highest > 8 || highest < levels || steps > 2*len(nodes) {
		t.Errorf("%d nodes, %d levels: %d steps, a stack of %d", len(nodes), levels, steps, highest)
	}
	b.sound()
	b.empty()
}

// TestFellClones: what others have, too, stays: of a clone just the root's count goes down; of trees that share some nodes those stay that the other one has.
func TestFellClones(t *testing.T) {
	for _, many := range []int{1, 8, 9, 40, 120} {
		for changes := range 6 {
			for turn := range 2 {
				b := laid(t, 500)
				x := b.plants(mixed(many)...)
				y := b.copies(x)
				for i := range changes {
					b.does(func() { b.put(y, 10+10*(i*many/5), b.fresh(data(7))) })
					b.does(func() { b.cut(y, 10*(many-2*i), maxBlocks, 1) })
				}
				if turn == 1 {
					x, y = y, x
				}
				nodes := len(b.nodes(x.root))
				b.gives(x)
				steps := b.fellsAll()
				if steps > 2*nodes || changes == 0 && steps != 1 {
					t.Errorf("%d keys, %d nodes: %d steps", many, nodes, steps)
				}
				b.scans(y, least, most, most)
				b.gives(y)
				b.fellsAll()
				b.empty()
			}
		}
	}
}

// TestFellSeveral: several trees on one stack, which share nodes, be it one root twice; and one of them is changed by others meanwhile.
func TestFellSeveral(t *testing.T) {
	b := laid(t, 600)
	x := b.plants(mixed(90)...)
	y, z, w := b.copies(x), b.copies(x), b.copies(x)
	b.does(func() { b.cut(y, 300, 500, 2) })
	b.does(func() { b.put(z, 55, b.fresh(data(1))) })
	v := b.plants(each(5, 20, 5)...)
	for _, tree := range []*kept{v, y, x, z} {
		b.gives(tree)
	}
	for i := 0; len(b.stack) > 0; i++ {
		b.fells()
		if i < 40 {
			b.does(func() { b.put(w, 10+7*i, b.fresh(data(2))) })
			b.does(func() { b.cut(w, 500, 900, 1) })
		}
		if len(b.stack) > 8 {
			t.Fatalf("the stack is %v", b.stack)
		}
	}
	b.scans(w, least, most, most)
	b.gives(w)
	b.fellsAll()
	b.empty()
}

// TestFellRandom: trees that are cloned and changed in any order, some of them felled meanwhile.
func TestFellRandom(t *testing.T) {
	for seed := range 4 {
		b := laid(t, 700)
		r := rand.New(rand.NewPCG(13, uint64(seed)))
		b.plants(mixed(60)...)
		for range 500 {
			if len(b.trees) == 0 {
				b.plants(each(r.IntN(100), 20, 1+r.IntN(9))...)
			}
			x := b.trees[r.IntN(len(b.trees))]
			switch k := r.IntN(100); {
			case k < 25:
				b.does(func() { b.put(x, r.IntN(700), b.fresh(data(byte(k)))) })
			case k < 45:
				b.does(func() { b.cut(x, r.IntN(600), r.IntN(900), 1+k%2) })
			case k < 55 && len(b.trees) < 5:
				b.copies(x)
			case k < 60 && len(b.stack) < 3:
				b.gives(x)
			default:
				b.fells()
			}
			b.sound()
		}
		for len(b.trees) > 0 {
			b.fellsAll()
			b.gives(b.trees[0])
		}
		b.fellsAll()
		b.empty()
	}
}

// TestFellCases: each that the chapter names, by hand.
func TestFellCases(t *testing.T) {
	b := laid(t, 64)
	val := b.holds(data(1))
	other := b.holds(data(2))
	b.raises(val, 5)
	one := b.holds(nodePage(leaf(3, val)))
	two := b.holds(nodePage(leaf(10, val, 11, val, 12, other)))
	none := b.holds(nodePage(leaf()))
	several := b.holds(nodePage(inner(3, one, 10, two)))
	only := b.holds(nodePage(inner(3, one)))
	shared := b.holds(nodePage(inner(3, one)))
	b.raises(shared, 2)
	for _, c := range []struct {
		stack, left []int
		counts      map[int]int
	}{
		{nil, nil, nil},
		{[]int{}, nil, nil},
		{[]int{shared}, nil, map[int]int{shared: 1}},
		{[]int{9, shared}, []int{9}, map[int]int{shared: 1}},
		{[]int{one}, nil, map[int]int{one: 0, val: 4}},
		{[]int{several, two}, []int{several}, map[int]int{two: 0, val: 3, other: 0}},
		{[]int{9, none}, []int{9}, map[int]int{none: 0}},
		{[]int{several}, []int{several, two}, nil},
		{[]int{-1, 5000, 0, several}, []int{-1, 5000, 0, several, two}, nil},
		{[]int{only}, []int{one}, map[int]int{only: 0}},
		{[]int{9, 9, 9, 9, 9, 9, 9, only}, []int{9, 9, 9, 9, 9, 9, 9, one}, map[int]int{only: 0}},
		{[]int{9, 9, 9, 9, 9, 9, 9, one}, []int{9, 9, 9, 9, 9, 9, 9}, map[int]int{one: 0, val: 4}},
		// A stack of as many as may be, and one more behind it: so the words have it.
		{[]int{9, 9, 9, 9, 9, 9, 9, several}, []int{9, 9, 9, 9, 9, 9, 9, several, two}, nil},
	} {
		was := b.state()
		b.begins()
		left, e := ranges.Fell(b.p, c.stack)
		if !slices.Equal(left, c.left) || e != api.OK {
			t.Errorf("Fell(%v) = %v, %v, not %v", c.stack, left, e, c.left)
		}
		for n, before := range was.counts {
			if want, changed := c.counts[n]; changed && b.p.Count(n) != want || !changed && b.p.Count(n) != before {
				t.Errorf("Fell(%v): page %d has the count %d", c.stack, n, b.p.Count(n))
			}
		}
		b.p.Abort()
		b.stays(was)
	}
}

// TestFellLong: more nodes than may be on a stack.
func TestFellLong(t *testing.T) {
	b := laid(t, 64)
	x := b.plants(1, 2, 3)
	was := b.state()
	b.begins()
	for _, n := range []int{least, -1, 0, 1, x.root, 63, most} {
		for _, many := range []int{9, 10, 16, 1000} {
			if left, e := ranges.Fell(b.p, slices.Repeat([]int{n}, many)); len(left) > 0 || e != api.ErrArg {
				t.Errorf("Fell of %d = %v, %v", many, left, e)
			}
		}
	}
	b.stays(was)
	b.p.Abort()
}

// TestFellMemory: a stack that is written to changes no other one, its spare room neither.
func TestFellMemory(t *testing.T) {
	b := laid(t, 200)
	x := b.plants(mixed(60)...)
	y := b.copies(x)
	b.gives(y)
	b.gives(x)
	for len(b.stack) > 0 {
		handed, whole := lent(b.stack)
		before := slices.Clone(whole)
		b.begins()
		left, e := ranges.Fell(b.p, handed)
		b.is("Fell", e, api.OK)
		kept := slices.Clone(left)
		for i := range whole { // what was handed in is not kept
			whole[i] = -5
		}
		if !slices.Equal(left, kept) {
			t.Fatalf("%v became %v", kept, left)
		}
		copy(whole, before)
		left = append(left, -7)
		for i := range left[:cap(left)] {
			left[:cap(left)][i] = -9
		}
		if !slices.Equal(whole, before) {
			t.Fatalf("%v became %v", before, whole)
		}
		b.stack = kept
		b.commits()
		b.sound()
	}
	b.empty()
}

// TestFellTwo: several steps in one transaction are those of one each; aborted, they are none.
func TestFellTwo(t *testing.T) {
	b := laid(t, 300)
	x := b.plants(mixed(100)...)
	y := b.copies(x)
	b.does(func() { b.put(y, 77, b.fresh(data(1))) })
	b.gives(x)
	for many := 1; len(b.stack) > 0; many++ {
		was, stack := b.state(), slices.Clone(b.stack)
		b.begins()
		for range many % 7 {
			b.fell()
			b.sound()
		}
		if many%3 > 0 {
			b.p.Abort()
			b.stays(was)
			b.stack = stack
		} else {
			b.commits()
		}
		b.sound()
	}
	b.scans(y, least, most, most)
}
