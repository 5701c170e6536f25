package node_test

import (
	"math"
	"testing"

	"polder/api"
)

// noKeys are numbers of which there is no Key; some are Keys by their last bits.
func noKeys() []int {
	return []int{math.MinInt, math.MinInt + 1, -1 << 32, -1<<32 + 5, -1048576, -1048575, -2, -1,
		1048576, 1048577, 2097151, 1 << 32, 1<<32 + 5, 1<<32 + 1048575, math.MaxInt - 1, math.MaxInt}
}

// noVals are numbers of which there is no Val.
func noVals() []int {
	return []int{math.MinInt, math.MinInt + 1, -1 << 32, -1<<32 + 5, -1 << 16, -1024, -1023, -2, -1, 0,
		1024, 1025, 2047, 1 << 16, 1<<16 + 5, 1 << 32, 1<<32 + 5, math.MaxInt - 1, math.MaxInt}
}

// TestPut: a Key that is not there, in its place; of one that is, its Val alone is another one.
func TestPut(t *testing.T) {
	for _, c := range []struct {
		name     string
		n        api.Node
		key, val int
		want     api.Node
	}{
		{"into one, ahead", leaf(5, 7), 4, 9, leaf(4, 9, 5, 7)},
		{"into one, behind", leaf(5, 7), 6, 9, leaf(5, 7, 6, 9)},
		{"into one, instead", leaf(5, 7), 5, 9, leaf(5, 9)},
		{"what is there", leaf(5, 7), 5, 7, leaf(5, 7)},
		{"ahead of all", leaf(3, 7, 5, 9), 1, 8, leaf(1, 8, 3, 7, 5, 9)},
		{"between", leaf(3, 7, 5, 9), 4, 8, leaf(3, 7, 4, 8, 5, 9)},
		{"behind all", leaf(3, 7, 5, 9), 6, 8, leaf(3, 7, 5, 9, 6, 8)},
		{"instead of the first", leaf(3, 7, 5, 9), 3, 8, leaf(3, 8, 5, 9)},
		{"instead of the last", leaf(3, 7, 5, 9), 5, 8, leaf(3, 7, 5, 8)},
		{"instead of the middle one", leaf(3, 7, 5, 9, 8, 2), 5, 8, leaf(3, 7, 5, 8, 8, 2)},
		{"a Val that is there", leaf(3, 7, 5, 9), 4, 7, leaf(3, 7, 4, 7, 5, 9)},
		{"a Key that is a Val", leaf(3, 7, 5, 9), 7, 3, leaf(3, 7, 5, 9, 7, 3)},
		{"Key 0", leaf(3, 7, 5, 9), 0, 8, leaf(0, 8, 3, 7, 5, 9)},
		{"instead of Key 0's", leaf(0, 7, 5, 9), 0, 8, leaf(0, 8, 5, 9)},
		{"the last Key", leaf(3, 7, 5, 9), 1048575, 8, leaf(3, 7, 5, 9, 1048575, 8)},
		{"instead of the last Key's", leaf(3, 7, 1048575, 9), 1048575, 8, leaf(3, 7, 1048575, 8)},
		{"Val 1", leaf(3, 7, 5, 9), 4, 1, leaf(3, 7, 4, 1, 5, 9)},
		{"the last Val", leaf(3, 7, 5, 9), 4, 1023, leaf(3, 7, 4, 1023, 5, 9)},
		{"instead, the last Val", leaf(3, 7, 5, 9), 5, 1023, leaf(3, 7, 5, 1023)},
		{"the eighth", leaf(1, 11, 2, 12, 3, 13, 4, 14, 6, 16, 7, 17, 8, 18), 5, 15, leaf(1, 11, 2, 12, 3, 13, 4, 14, 5, 15, 6, 16, 7, 17, 8, 18)},
		{"one of eight", leaf(1, 11, 2, 12, 3, 13, 4, 14, 5, 15, 6, 16, 7, 17, 8, 18), 5, 99, leaf(1, 11, 2, 12, 3, 13, 4, 14, 5, 99, 6, 16, 7, 17, 8, 18)},
		{"the last of eight", leaf(1, 11, 2, 12, 3, 13, 4, 14, 5, 15, 6, 16, 7, 17, 8, 18), 8, 99, leaf(1, 11, 2, 12, 3, 13, 4, 14, 5, 15, 6, 16, 7, 17, 8, 99)},
	} {
		for _, isLeaf := range []bool{true, false} {
			got, e := put(t, as(isLeaf, c.n), c.key, c.val)
			is(t, c.name, e, api.OK, got, as(isLeaf, c.want))
		}
	}
}

// TestPutEmpty: into a leaf without Keys, however it is told; an inner node without them may not be.
func TestPutEmpty(t *testing.T) {
	for _, l := range [][]int{nil, {}} {
		for _, key := range []int{0, 5, 1048575} {
			for _, val := range []int{1, 7, 1023} {
				got, e := put(t, api.Node{Leaf: true, Keys: l, Vals: l}, key, val)
				is(t, "into an empty leaf", e, api.OK, got, leaf(key, val))
				got, e = put(t, api.Node{Keys: l, Vals: l}, key, val)
				refuses(t, "into an empty inner node", e, api.ErrNode, got)
			}
		}
	}
}

// TestPutEach: into nodes of up to eight Keys, at each place, a new Key and one that is there; a ninth is refused.
func TestPutEach(t *testing.T) {
	for count := 1; count <= 8; count++ {
		for _, isLeaf := range []bool{true, false} {
			for at := range count + 1 {
				n := many(isLeaf, count)
				want := api.Node{Leaf: isLeaf}
				for i := range count + 1 {
					if i == at {
						want.Keys, want.Vals = append(want.Keys, 5+10*at), append(want.Vals, 777)
					}
					if i < count {
						want.Keys, want.Vals = append(want.Keys, n.Keys[i]), append(want.Vals, n.Vals[i])
					}
				}
				got, e := put(t, n, 5+10*at, 777)
				if count == 8 {
					refuses(t, "a ninth", e, api.ErrFull, got)
				} else {
					is(t, "a new one", e, api.OK, got, want)
				}
				if at < count {
					want = many(isLeaf, count)
					want.Vals[at] = 777
					got, e = put(t, n, 10+10*at, 777)
					is(t, "another Val", e, api.OK, got, want)
				}
			}
		}
	}
}

// TestPutBadNode: of a node that may not be ErrNode, whatever the key and the val are, and whether there would be room.
func TestPutBadNode(t *testing.T) {
	for name, n := range badEither() {
		for _, isLeaf := range []bool{true, false} {
			for _, key := range []int{5, 6, 0, -1, 1048576} {
				for _, val := range []int{7, 0, 1024} {
					got, e := put(t, as(isLeaf, n), key, val)
					refuses(t, name, e, api.ErrNode, got)
				}
			}
		}
	}
}

// TestPutBadArg: ErrArg of a key or a val that may not be, ahead of ErrFull.
func TestPutBadArg(t *testing.T) {
	for _, n := range []api.Node{leaf(), many(true, 1), many(false, 1), many(true, 7), many(false, 7), many(true, 8), many(false, 8), leaf(0, 7), inner(1048575, 7)} {
		for _, key := range noKeys() {
			for _, val := range append(noVals(), 1, 7, 1023) {
				got, e := put(t, n, key, val)
				refuses(t, "a key that may not be", e, api.ErrArg, got)
			}
		}
		for _, val := range noVals() {
			for _, key := range []int{0, 5, 10, 11, 1048575} {
				got, e := put(t, n, key, val)
				refuses(t, "a val that may not be", e, api.ErrArg, got)
			}
		}
	}
}

// TestDrop: at each place of nodes of up to eight Keys; of the only Key a leaf is left, but no inner node.
func TestDrop(t *testing.T) {
	for count := 1; count <= 8; count++ {
		for _, isLeaf := range []bool{true, false} {
			for at := range count {
				want := api.Node{Leaf: isLeaf}
				for i := range count {
					if i != at {
						want.Keys, want.Vals = append(want.Keys, 10+10*i), append(want.Vals, 11+10*i)
					}
				}
				got, e := drop(t, many(isLeaf, count), at)
				if count == 1 && !isLeaf {
					refuses(t, "an inner node's only Key", e, api.ErrNode, got)
				} else {
					is(t, "one less", e, api.OK, got, want)
				}
			}
		}
	}
	got, e := drop(t, leaf(0, 1, 1048575, 1023), 0)
	is(t, "Key 0", e, api.OK, got, leaf(1048575, 1023))
	got, e = drop(t, inner(0, 1, 1048575, 1023), 1)
	is(t, "the last Key", e, api.OK, got, inner(0, 1))
}

// noPlaces are numbers of which there is no place in a node of so many Keys; some are one by their last bits.
func noPlaces(count int) []int {
	return []int{math.MinInt, math.MinInt + 1, -1 << 32, -1 << 8, -count - 1, -count, -2, -1,
		count, count + 1, 8, 9, 1 << 8, 1 << 16, 1 << 32, math.MaxInt - 1, math.MaxInt}
}

// TestDropNoPlace: ErrArg, also where ErrNode would come of any place that there is.
func TestDropNoPlace(t *testing.T) {
	for count := range 9 {
		for _, isLeaf := range []bool{true, false} {
			for _, at := range noPlaces(count) {
				if count == 0 && !isLeaf || at >= 0 && at < count {
					continue
				}
				got, e := drop(t, many(isLeaf, count), at)
				refuses(t, "no place", e, api.ErrArg, got)
			}
		}
	}
	got, e := drop(t, leaf(), 0)
	refuses(t, "of an empty leaf", e, api.ErrArg, got)
}

// TestDropBadNode: of a node that may not be ErrNode, whatever the place is.
func TestDropBadNode(t *testing.T) {
	bad := badEither()
	bad["an inner node without Keys"] = inner()
	for name, n := range bad {
		for _, isLeaf := range []bool{true, false} {
			if isLeaf && len(n.Keys)+len(n.Vals) == 0 {
				continue
			}
			for _, at := range append(noPlaces(len(n.Keys)), 0, len(n.Keys)-1, len(n.Vals)-1, len(n.Vals)) {
				got, e := drop(t, as(isLeaf, n), at)
				refuses(t, name, e, api.ErrNode, got)
			}
		}
	}
}
