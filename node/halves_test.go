package node_test

import (
	"testing"

	"polder/api"
)

// TestSplit: the first half, rounded up, and the others; fewer than two Keys are not split.
func TestSplit(t *testing.T) {
	for _, c := range []struct{ count, first int }{{0, 0}, {1, 0}, {2, 1}, {3, 2}, {4, 2}, {5, 3}, {6, 3}, {7, 4}, {8, 4}} {
		for _, isLeaf := range []bool{true, false} {
			got, e := split(t, many(isLeaf, c.count))
			if c.first == 0 {
				refuses(t, "fewer than two", e, api.ErrNode, got)
			} else {
				is(t, "two and more", e, api.OK, got, from(isLeaf, 10, c.first), from(isLeaf, 10+10*c.first, c.count-c.first))
			}
		}
	}
	got, e := split(t, leaf(0, 1023, 3, 1, 1048574, 5, 1048575, 1))
	is(t, "the edges", e, api.OK, got, leaf(0, 1023, 3, 1), leaf(1048574, 5, 1048575, 1))
	got, e = split(t, inner(1, 9, 2, 9, 700, 9))
	is(t, "Keys far apart", e, api.OK, got, inner(1, 9, 2, 9), inner(700, 9))
}

// TestSplitBadNode: a node that may not be is not split, however many Keys it has.
func TestSplitBadNode(t *testing.T) {
	for name, n := range badEither() {
		for _, isLeaf := range []bool{true, false} {
			got, e := split(t, as(isLeaf, n))
			refuses(t, name, e, api.ErrNode, got)
		}
	}
}

// pair is two nodes.
type pair struct {
	name string
	a, b api.Node
}

// fit are nodes of up to 8 Keys together of which the second one follows the first one, as leaves and as inner nodes.
func fit() []pair {
	return []pair{
		{"one and one", leaf(3, 7), leaf(5, 9)},
		{"Keys that meet", leaf(3, 7), leaf(4, 9)},
		{"several that meet", leaf(1, 7, 3, 8), leaf(4, 9, 5, 2)},
		{"the ends", leaf(0, 1), leaf(1048575, 1023)},
		{"the two last Keys", leaf(1048574, 1), leaf(1048575, 1)},
		{"one and six", many(true, 1), from(true, 20, 6)},
		{"one and seven", many(true, 1), from(true, 20, 7)},
		{"six and one", many(true, 6), from(true, 70, 1)},
		{"seven and one", many(true, 7), from(true, 80, 1)},
		{"three and four", many(true, 3), from(true, 40, 4)},
		{"four and four", many(true, 4), from(true, 50, 4)},
		{"four and three, far apart", many(true, 4), from(true, 500, 3)},
		{"Vals that fall", leaf(1, 9, 2, 8), leaf(3, 7, 4, 6)},
		{"Vals that are equal", leaf(1, 9), leaf(2, 9)},
	}
}

// big are such nodes of more than 8 Keys together.
func big() []pair {
	return []pair{
		{"one and eight", many(true, 1), from(true, 20, 8)},
		{"eight and one", many(true, 8), from(true, 90, 1)},
		{"four and five", many(true, 4), from(true, 50, 5)},
		{"five and four", many(true, 5), from(true, 60, 4)},
		{"five and five", many(true, 5), from(true, 60, 5)},
		{"two and eight", many(true, 2), from(true, 30, 8)},
		{"seven and eight", many(true, 7), from(true, 80, 8)},
		{"eight and seven", many(true, 8), from(true, 90, 7)},
		{"eight and eight", many(true, 8), from(true, 90, 8)},
		{"eight and eight that meet", many(true, 8), from(true, 81, 8)},
	}
}

// unfit are nodes that may be of which the second one does not follow the first one: as leaves, and as inner nodes.
func unfit() []pair {
	return []pair{
		{"equal", leaf(3, 7), leaf(3, 7)},
		{"equal Keys", leaf(3, 7), leaf(3, 9)},
		{"equal at the seam", leaf(1, 7, 3, 8), leaf(3, 9, 5, 2)},
		{"equal at the seam, 0", leaf(0, 7), leaf(0, 8)},
		{"equal at the seam, the last", leaf(1048575, 7), leaf(1048575, 8)},
		{"turned round", leaf(5, 9), leaf(3, 7)},
		{"turned round, several", leaf(5, 9, 6, 8), leaf(1, 7, 3, 7)},
		{"crossed", leaf(1, 7, 4, 8), leaf(3, 9, 5, 2)},
		{"crossed, the last alone", leaf(1, 7, 2, 8, 4, 9), leaf(3, 9, 5, 2)},
		{"the second one within the first one", leaf(1, 7, 9, 8), leaf(3, 9, 5, 2)},
		{"the first one within the second one", leaf(3, 9, 5, 2), leaf(1, 7, 9, 8)},
		{"by turns", leaf(1, 1, 3, 3, 5, 5), leaf(2, 2, 4, 4, 6, 6)},
		{"turned round, eight and one", from(true, 90, 8), many(true, 1)},
		{"turned round, eight and eight", from(true, 90, 8), many(true, 8)},
		{"crossed, eight and eight", many(true, 8), from(true, 75, 8)},
		{"equal at the seam, eight and eight", many(true, 8), from(true, 80, 8)},
	}
}

// together is what two nodes have, one behind the other.
func together(isLeaf bool, a, b api.Node) api.Node {
	n := api.Node{Leaf: isLeaf}
	for _, x := range []api.Node{a, b} {
		for i := range x.Keys {
			n.Keys, n.Vals = append(n.Keys, x.Keys[i]), append(n.Vals, x.Vals[i])
		}
	}
	return n
}

// cut is a node's places up to one, and those from it on.
func cut(n api.Node, at int) []api.Node {
	return []api.Node{{Leaf: n.Leaf, Keys: n.Keys[:at], Vals: n.Vals[:at]}, {Leaf: n.Leaf, Keys: n.Keys[at:], Vals: n.Vals[at:]}}
}

// TestJoin: both, one behind the other; ErrFull where they are more than eight.
func TestJoin(t *testing.T) {
	for _, isLeaf := range []bool{true, false} {
		for _, c := range fit() {
			got, e := join(t, as(isLeaf, c.a), as(isLeaf, c.b))
			is(t, c.name, e, api.OK, got, together(isLeaf, c.a, c.b))
		}
		for _, c := range big() {
			got, e := join(t, as(isLeaf, c.a), as(isLeaf, c.b))
			refuses(t, c.name, e, api.ErrFull, got)
		}
		for _, c := range unfit() {
			got, e := join(t, as(isLeaf, c.a), as(isLeaf, c.b))
			refuses(t, c.name, e, api.ErrNode, got)
		}
	}
	got, e := join(t, leaf(1, 7, 3, 8), leaf(4, 9))
	is(t, "by hand", e, api.OK, got, leaf(1, 7, 3, 8, 4, 9))
	got, e = join(t, inner(1, 7), inner(3, 8, 4, 9))
	is(t, "by hand", e, api.OK, got, inner(1, 7, 3, 8, 4, 9))
}

// TestJoinEach: so many and so many Keys, each of up to eight, as leaves and as inner nodes.
func TestJoinEach(t *testing.T) {
	for count := range 9 {
		for other := range 9 {
			for _, isLeaf := range []bool{true, false} {
				got, e := join(t, many(isLeaf, count), from(isLeaf, 10+10*count, other))
				switch {
				case !isLeaf && (count == 0 || other == 0):
					refuses(t, "an inner node without Keys", e, api.ErrNode, got)
				case count+other > 8:
					refuses(t, "too many", e, api.ErrFull, got)
				default:
					is(t, "both", e, api.OK, got, many(isLeaf, count+other))
				}
			}
		}
	}
}

// TestShare: the first half of both together, rounded up, and the others, also where there is no room for a Join.
func TestShare(t *testing.T) {
	for _, isLeaf := range []bool{true, false} {
		for _, c := range append(fit(), big()...) {
			n := together(isLeaf, c.a, c.b)
			got, e := share(t, as(isLeaf, c.a), as(isLeaf, c.b))
			is(t, c.name, e, api.OK, got, cut(n, len(n.Keys)-len(n.Keys)/2)...)
		}
		for _, c := range unfit() {
			got, e := share(t, as(isLeaf, c.a), as(isLeaf, c.b))
			refuses(t, c.name, e, api.ErrNode, got)
		}
	}
	got, e := share(t, leaf(1, 7), leaf(3, 8, 4, 9, 5, 2))
	is(t, "by hand, of four", e, api.OK, got, leaf(1, 7, 3, 8), leaf(4, 9, 5, 2))
	got, e = share(t, inner(1, 7, 2, 6, 3, 8, 4, 9), inner(5, 2))
	is(t, "by hand, of five", e, api.OK, got, inner(1, 7, 2, 6, 3, 8), inner(4, 9, 5, 2))
}

// TestShareEach: so many and so many Keys, each of up to eight, as leaves and as inner nodes; fewer than two together are not shared.
func TestShareEach(t *testing.T) {
	for count := range 9 {
		for other := range 9 {
			for _, isLeaf := range []bool{true, false} {
				sum := count + other
				first := []int{0, 1, 1, 2, 2, 3, 3, 4, 4, 5, 5, 6, 6, 7, 7, 8, 8}[sum]
				got, e := share(t, many(isLeaf, count), from(isLeaf, 10+10*count, other))
				switch {
				case !isLeaf && (count == 0 || other == 0):
					refuses(t, "an inner node without Keys", e, api.ErrNode, got)
				case sum < 2:
					refuses(t, "fewer than two", e, api.ErrNode, got)
				default:
					is(t, "halves", e, api.OK, got, from(isLeaf, 10, first), from(isLeaf, 10+10*first, sum-first))
				}
			}
		}
	}
}

// TestEmptyLeaves: one without Keys is behind any leaf, and ahead of any; two come to one.
func TestEmptyLeaves(t *testing.T) {
	for _, empty := range []api.Node{{Leaf: true}, {Leaf: true, Keys: []int{}, Vals: []int{}}} {
		for _, n := range []api.Node{leaf(0, 1), leaf(1048575, 1023), leaf(3, 7, 5, 9), many(true, 7), many(true, 8)} {
			got, e := join(t, n, empty)
			is(t, "Join with an empty leaf", e, api.OK, got, n)
			got, e = join(t, empty, n)
			is(t, "Join of an empty leaf", e, api.OK, got, n)
			for _, l := range [][2]api.Node{{n, empty}, {empty, n}} {
				got, e = share(t, l[0], l[1])
				if len(n.Keys) < 2 {
					refuses(t, "Share of one", e, api.ErrNode, got)
				} else {
					is(t, "Share with an empty leaf", e, api.OK, got, cut(n, len(n.Keys)-len(n.Keys)/2)...)
				}
			}
		}
		got, e := join(t, empty, leaf())
		is(t, "Join of two empty leaves", e, api.OK, got, leaf())
		got, e = share(t, empty, leaf())
		refuses(t, "Share of two empty leaves", e, api.ErrNode, got)
		got, e = split(t, empty)
		refuses(t, "Split of an empty leaf", e, api.ErrNode, got)
	}
}

// TestLeafAndInner: one of each is neither joined nor shared, whatever they have.
func TestLeafAndInner(t *testing.T) {
	for _, c := range append(append(fit(), big()...), unfit()...) {
		for _, isLeaf := range []bool{true, false} {
			got, e := join(t, as(isLeaf, c.a), as(!isLeaf, c.b))
			refuses(t, "Join: "+c.name, e, api.ErrNode, got)
			got, e = share(t, as(isLeaf, c.a), as(!isLeaf, c.b))
			refuses(t, "Share: "+c.name, e, api.ErrNode, got)
		}
	}
	for _, n := range []api.Node{inner(3, 7), many(false, 8)} {
		for _, l := range [][2]api.Node{{n, leaf()}, {leaf(), n}} {
			got, e := join(t, l[0], l[1])
			refuses(t, "Join with an empty leaf", e, api.ErrNode, got)
			got, e = share(t, l[0], l[1])
			refuses(t, "Share with an empty leaf", e, api.ErrNode, got)
		}
	}
}

// TestBadPair: with a node that may not be, in either place, ErrNode, ahead of ErrFull.
func TestBadPair(t *testing.T) {
	for name, bad := range badEither() {
		for _, isLeaf := range []bool{true, false} {
			for _, good := range []api.Node{many(isLeaf, 1), many(isLeaf, 8), as(isLeaf, leaf(0, 1)), as(isLeaf, leaf(1048575, 1)), from(isLeaf, 900, 3), leaf()} {
				for _, l := range [][2]api.Node{{as(isLeaf, bad), good}, {good, as(isLeaf, bad)}, {as(isLeaf, bad), as(isLeaf, bad)}} {
					got, e := join(t, l[0], l[1])
					refuses(t, "Join: "+name, e, api.ErrNode, got)
					got, e = share(t, l[0], l[1])
					refuses(t, "Share: "+name, e, api.ErrNode, got)
				}
			}
		}
	}
	for _, l := range [][2]api.Node{{inner(), many(false, 3)}, {many(false, 3), inner()}, {inner(), inner()}, {leaf(), inner()}, {inner(), leaf()}} {
		got, e := join(t, l[0], l[1])
		refuses(t, "Join with an inner node without Keys", e, api.ErrNode, got)
		got, e = share(t, l[0], l[1])
		refuses(t, "Share with an inner node without Keys", e, api.ErrNode, got)
	}
}

// TestJoinOfSplit: Join of a Split is the node; a Share of it is the Split again.
func TestJoinOfSplit(t *testing.T) {
	nodes := []api.Node{leaf(0, 1023, 1048575, 1), inner(0, 1, 1, 1, 2, 1)}
	for count := 2; count <= 8; count++ {
		nodes = append(nodes, many(true, count), many(false, count))
	}
	for _, n := range nodes {
		parts, e := split(t, n)
		if e != api.OK {
			t.Errorf("Split of %v: %v", n, e)
			continue
		}
		got, e := join(t, parts[0], parts[1])
		is(t, "Join of a Split", e, api.OK, got, n)
		got, e = share(t, parts[0], parts[1])
		is(t, "Share of a Split", e, api.OK, got, parts...)
	}
}
