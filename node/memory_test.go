package node_test

import (
	"slices"
	"testing"

	"polder/api"
	"polder/node"
)

// lent is a node whose lists stand within longer ones: what is ahead of them and behind them is the caller's, too.
type lent struct {
	node       api.Node
	keys, vals []int
	was        []int
}

// around is how many numbers are ahead of a lent list and behind it: more than any call might append.
const around = 20

func lend(n api.Node) lent {
	x := lent{keys: surrounded(n.Keys), vals: surrounded(n.Vals)}
	x.node = api.Node{Leaf: n.Leaf, Keys: x.keys[around : around+len(n.Keys)], Vals: x.vals[around : around+len(n.Vals)]}
	x.was = slices.Concat(x.keys, x.vals)
	return x
}

func surrounded(l []int) []int {
	edge := slices.Repeat([]int{-77}, around)
	return slices.Concat(edge, l, edge)
}

// isKept tells whether what was lent is as it was.
func (x lent) isKept() bool { return slices.Equal(slices.Concat(x.keys, x.vals), x.was) }

// kept asks whether it is.
func (x lent) kept(t *testing.T, what string) {
	t.Helper()
	if !x.isKept() {
		t.Errorf("%s changed what it was handed in: %v, %v were %v", what, x.keys, x.vals, x.was)
	}
}

// own asks whether what is answered is memory of its own. It answers what was answered.
func own(t *testing.T, what string, answered []api.Node, from ...lent) []api.Node {
	t.Helper()
	for _, x := range from {
		x.kept(t, what)
	}
	var told []api.Node
	for _, n := range answered {
		told = append(told, api.Node{Leaf: n.Leaf, Keys: slices.Clone(n.Keys), Vals: slices.Clone(n.Vals)})
	}
	if isShared(answered, from...) {
		t.Errorf("%s answers memory that it shares: %v", what, told)
	}
	return told
}

// isShared tells whether a list of these nodes shares memory, its spare room too, with another one, or with what was lent: each is written full, and all others are looked at.
func isShared(answered []api.Node, from ...lent) bool {
	var lists [][]int
	for _, n := range answered {
		lists = append(lists, n.Keys[:cap(n.Keys)], n.Vals[:cap(n.Vals)])
	}
	for i, l := range lists {
		for j := range l {
			l[j] = 5000000 + i
		}
	}
	for i, l := range lists {
		if slices.ContainsFunc(l, func(n int) bool { return n != 5000000+i }) {
			return true
		}
	}
	return slices.ContainsFunc(from, func(x lent) bool { return !x.isKept() })
}

// TestIsShared: shared memory is seen, else what is asked of each answer would tell nothing.
func TestIsShared(t *testing.T) {
	x := lend(many(true, 3))
	if !isShared([]api.Node{x.node}, x) {
		t.Error("a node that is handed on is not seen")
	}
	x = lend(many(true, 3))
	if !isShared([]api.Node{{Keys: x.node.Keys[3:]}}, x) {
		t.Error("spare room that is handed on is not seen")
	}
	n := many(true, 4)
	if !isShared([]api.Node{{Keys: n.Keys[:2]}, {Keys: n.Keys[2:]}}) {
		t.Error("halves in one list are not seen")
	}
	if isShared([]api.Node{many(true, 4), many(true, 4)}, lend(n)) {
		t.Error("lists of their own are said to be shared")
	}
}

// TestUnchangedNode: what is as it was is new memory all the same: a Key that has the Val already, a node that is joined with an empty one, halves that are shared already.
func TestUnchangedNode(t *testing.T) {
	n := many(true, 4)
	got, e := put(t, n, 20, 21)
	is(t, "Put of what is there", e, api.OK, got, n)
	got, e = join(t, n, leaf())
	is(t, "Join with an empty leaf", e, api.OK, got, n)
	got, e = join(t, leaf(), n)
	is(t, "Join of an empty leaf", e, api.OK, got, n)
	got, e = share(t, from(true, 10, 4), from(true, 50, 4))
	is(t, "Share of halves", e, api.OK, got, from(true, 10, 4), from(true, 50, 4))
}

// TestOneMemory: nodes whose lists stand side by side in one array, so that what is appended to the one would be in the other; and Keys that are the Vals.
func TestOneMemory(t *testing.T) {
	var all [16]int
	for i := range all {
		all[i] = 1 + i
	}
	was := all
	a := api.Node{Leaf: true, Keys: all[0:3], Vals: all[8:11]}
	b := api.Node{Leaf: true, Keys: all[3:6], Vals: all[11:14]}
	wantA, wantB := leaf(1, 9, 2, 10, 3, 11), leaf(4, 12, 5, 13, 6, 14)
	both := leaf(1, 9, 2, 10, 3, 11, 4, 12, 5, 13, 6, 14)

	joined, e := node.Join(a, b)
	is(t, "Join", e, api.OK, []api.Node{joined}, both)
	c, d, e := node.Share(a, b)
	is(t, "Share", e, api.OK, []api.Node{c, d}, wantA, wantB)
	c, d, e = node.Share(api.Node{Leaf: true, Keys: all[0:5], Vals: all[8:13]}, api.Node{Leaf: true, Keys: all[5:6], Vals: all[13:14]})
	is(t, "Share of five and one", e, api.OK, []api.Node{c, d}, wantA, wantB)
	joined, e = node.Put(a, 7, 8)
	is(t, "Put", e, api.OK, []api.Node{joined}, leaf(1, 9, 2, 10, 3, 11, 7, 8))
	joined, e = node.Drop(a, 0)
	is(t, "Drop", e, api.OK, []api.Node{joined}, leaf(2, 10, 3, 11))
	c, d, e = node.Split(a)
	is(t, "Split", e, api.OK, []api.Node{c, d}, leaf(1, 9, 2, 10), leaf(3, 11))

	same := api.Node{Leaf: true, Keys: all[0:4], Vals: all[0:4]}
	joined, e = node.Put(same, 2, 9)
	is(t, "Put where Keys are Vals", e, api.OK, []api.Node{joined}, leaf(1, 1, 2, 9, 3, 3, 4, 4))
	joined, e = node.Drop(same, 1)
	is(t, "Drop where Keys are Vals", e, api.OK, []api.Node{joined}, leaf(1, 1, 3, 3, 4, 4))
	joined, e = node.Join(same, same)
	refuses(t, "Join of a node with itself", e, api.ErrNode, []api.Node{joined})
	if all != was {
		t.Errorf("what was handed in was changed: %v", all)
	}
}

// TestNotKept: what was answered doesn't change by what its node is changed to later, nor by another call.
func TestNotKept(t *testing.T) {
	n, m := many(true, 3), from(true, 50, 3)
	first, _ := node.Put(n, 5, 6)
	second, _ := node.Drop(n, 0)
	third, _ := node.Join(n, m)
	fourth, fifth, _ := node.Split(n)
	sixth, seventh, _ := node.Share(n, m)
	for i := range 3 {
		n.Keys[i], n.Vals[i], m.Keys[i], m.Vals[i] = i, i+1, i, i+1
	}
	node.Put(n, 7, 8)
	node.Share(n, from(true, 90, 3))
	is(t, "answers", api.OK, api.OK, []api.Node{first, second, third, fourth, fifth, sixth, seventh},
		leaf(5, 6, 10, 11, 20, 21, 30, 31), leaf(20, 21, 30, 31), leaf(10, 11, 20, 21, 30, 31, 50, 51, 60, 61, 70, 71),
		leaf(10, 11, 20, 21), leaf(30, 31), leaf(10, 11, 20, 21, 30, 31), leaf(50, 51, 60, 61, 70, 71))
}
