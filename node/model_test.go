package node_test

import (
	"maps"
	"math"
	"math/rand/v2"
	"slices"
	"testing"

	"polder/api"
)

// The chapter told once more: a node as a map, wherever that is what it means.

// mayBe is when a node may be.
func mayBe(n api.Node) bool {
	if len(n.Keys) != len(n.Vals) || len(n.Keys) > 8 || len(n.Keys) == 0 && !n.Leaf {
		return false
	}
	once := slices.Compact(slices.Sorted(slices.Values(n.Keys)))
	if !slices.Equal(once, n.Keys) {
		return false
	}
	for i := range n.Keys {
		if n.Keys[i] < 0 || n.Keys[i] > 1048575 || n.Vals[i] < 1 || n.Vals[i] > 1023 {
			return false
		}
	}
	return true
}

// mapOf is a node's Keys, each with its Val.
func mapOf(n api.Node) map[int]int {
	m := map[int]int{}
	for i, key := range n.Keys {
		m[key] = n.Vals[i]
	}
	return m
}

// nodeOf is the node of a map.
func nodeOf(isLeaf bool, m map[int]int) api.Node {
	n := api.Node{Leaf: isLeaf}
	for _, key := range slices.Sorted(maps.Keys(m)) {
		n.Keys, n.Vals = append(n.Keys, key), append(n.Vals, m[key])
	}
	return n
}

// toldFind is Find.
func toldFind(n api.Node, key int) (int, bool) {
	at := slices.IndexFunc(n.Keys, func(k int) bool { return k >= key })
	if at < 0 {
		return len(n.Keys), false
	}
	return at, n.Keys[at] == key
}

// toldChild is Child.
func toldChild(n api.Node, key int) int {
	above := slices.IndexFunc(n.Keys, func(k int) bool { return k > key })
	if above < 0 {
		above = len(n.Keys)
	}
	return max(0, above-1)
}

// toldPut is Put.
func toldPut(n api.Node, key, val int) ([]api.Node, api.Errno) {
	if !mayBe(n) {
		return make([]api.Node, 1), api.ErrNode
	}
	if key < 0 || key > 1048575 || val < 1 || val > 1023 {
		return make([]api.Node, 1), api.ErrArg
	}
	m := mapOf(n)
	m[key] = val
	if len(m) == 9 {
		return make([]api.Node, 1), api.ErrFull
	}
	return []api.Node{nodeOf(n.Leaf, m)}, api.OK
}

// toldDrop is Drop.
func toldDrop(n api.Node, at int) ([]api.Node, api.Errno) {
	if !mayBe(n) {
		return make([]api.Node, 1), api.ErrNode
	}
	if at < 0 || at > len(n.Keys)-1 {
		return make([]api.Node, 1), api.ErrArg
	}
	m := mapOf(n)
	delete(m, n.Keys[at])
	if left := nodeOf(n.Leaf, m); mayBe(left) {
		return []api.Node{left}, api.OK
	}
	return make([]api.Node, 1), api.ErrNode
}

// toldHalves is what is split.
func toldHalves(n api.Node) ([]api.Node, api.Errno) {
	if len(n.Keys) < 2 {
		return make([]api.Node, 2), api.ErrNode
	}
	return cut(n, len(n.Keys)-len(n.Keys)/2), api.OK
}

// toldSplit is Split.
func toldSplit(n api.Node) ([]api.Node, api.Errno) {
	if !mayBe(n) {
		return make([]api.Node, 2), api.ErrNode
	}
	return toldHalves(n)
}

// isBehind tells whether Join of two may be.
func isBehind(a, b api.Node) bool {
	if !mayBe(a) || !mayBe(b) || a.Leaf != b.Leaf {
		return false
	}
	for _, key := range a.Keys {
		for _, other := range b.Keys {
			if key >= other {
				return false
			}
		}
	}
	return true
}

// toldJoin is Join.
func toldJoin(a, b api.Node) ([]api.Node, api.Errno) {
	if !isBehind(a, b) {
		return make([]api.Node, 1), api.ErrNode
	}
	if len(a.Keys)+len(b.Keys) > 8 {
		return make([]api.Node, 1), api.ErrFull
	}
	return []api.Node{together(a.Leaf, a, b)}, api.OK
}

// toldShare is Share.
func toldShare(a, b api.Node) ([]api.Node, api.Errno) {
	if !isBehind(a, b) {
		return make([]api.Node, 2), api.ErrNode
	}
	return toldHalves(together(a.Leaf, a, b))
}

// alike asks whether a call's answer is what the chapter has, and whether all that is answered beside OK may be.
func alike(t *testing.T, what string, got []api.Node, e api.Errno, want []api.Node, wantE api.Errno) {
	t.Helper()
	is(t, what, e, wantE, got, want...)
	for _, n := range got {
		if e == api.OK && (!mayBe(n) || check(t, n) != api.OK) {
			t.Errorf("%s answers %v, which may not be", what, n)
		}
	}
}

// asksOne asks all calls of one node.
func asksOne(t *testing.T, n api.Node, keys, vals, places []int) {
	t.Helper()
	want := api.ErrNode
	if mayBe(n) {
		want = api.OK
	}
	if e := check(t, n); e != want {
		t.Errorf("Check(%v) = %v, not %v", n, e, want)
	}
	for _, key := range keys {
		at, ok := toldFind(n, key)
		finds(t, n, key, at, ok)
		below(t, n, key, toldChild(n, key))
		for _, val := range vals {
			got, e := put(t, n, key, val)
			want, wantE := toldPut(n, key, val)
			alike(t, "Put", got, e, want, wantE)
		}
	}
	for _, at := range places {
		got, e := drop(t, n, at)
		want, wantE := toldDrop(n, at)
		alike(t, "Drop", got, e, want, wantE)
	}
	got, e := split(t, n)
	halves, wantE := toldSplit(n)
	alike(t, "Split", got, e, halves, wantE)
}

// asksTwo asks all calls of two nodes.
func asksTwo(t *testing.T, a, b api.Node) {
	t.Helper()
	got, e := join(t, a, b)
	want, wantE := toldJoin(a, b)
	alike(t, "Join", got, e, want, wantE)
	got, e = share(t, a, b)
	want, wantE = toldShare(a, b)
	alike(t, "Share", got, e, want, wantE)
}

// lists are all lists of up to so many of some numbers, in any order, with doubles.
func lists(most int, of ...int) [][]int {
	l := [][]int{nil}
	last := l
	for range most {
		var next [][]int
		for _, x := range last {
			for _, n := range of {
				next = append(next, slices.Concat(x, []int{n}))
			}
		}
		l, last = append(l, next...), next
	}
	return l
}

// TestSmall: all nodes of up to three Keys from -1 to 3, in any order, with as many Vals, and fewer and more by one.
func TestSmall(t *testing.T) {
	for _, keys := range lists(3, -1, 0, 1, 2, 3) {
		for by := -1; by <= 1; by++ {
			for _, isLeaf := range []bool{true, false} {
				if len(keys)+by < 0 {
					continue
				}
				n := api.Node{Leaf: isLeaf, Keys: keys, Vals: many(isLeaf, len(keys)+by).Vals}
				asksOne(t, n, []int{-2, -1, 0, 1, 2, 3, 4}, []int{0, 1, 11}, []int{-1, 0, 1, 2, 3})
			}
		}
		if t.Failed() {
			t.Fatal(keys)
		}
	}
}

// TestSmallPairs: any two nodes of up to two Keys from 0 to 3, in any order, leaves and inner ones.
func TestSmallPairs(t *testing.T) {
	var nodes []api.Node
	for _, keys := range lists(2, 0, 1, 2, 3) {
		for _, isLeaf := range []bool{true, false} {
			nodes = append(nodes, api.Node{Leaf: isLeaf, Keys: keys, Vals: many(isLeaf, len(keys)).Vals})
		}
	}
	for _, a := range nodes {
		for _, b := range nodes {
			asksTwo(t, a, b)
		}
	}
}

// TestSets: all nodes of some of ten Keys, each asked all there is to ask.
func TestSets(t *testing.T) {
	all := []int{0, 1, 2, 10, 65535, 65536, 524288, 1048573, 1048574, 1048575}
	var keys []int
	for _, key := range all {
		keys = append(keys, key-1, key, key+1)
	}
	for set := range 1 << len(all) {
		m := map[int]int{}
		for i, key := range all {
			if set>>i&1 == 1 {
				m[key] = 1023 - i*(set%100)
			}
		}
		for _, isLeaf := range []bool{true, false} {
			n := nodeOf(isLeaf, m)
			asksOne(t, n, keys, []int{1023}, []int{-1, 0, 1, 2, 3, 4, 5, 6, 7, 8, 9, 10})
			for at := range len(n.Keys) + 1 {
				parts := cut(n, at)
				asksTwo(t, parts[0], parts[1])
				asksTwo(t, parts[1], parts[0])
			}
		}
		if t.Failed() {
			t.Fatal(m)
		}
	}
}

// randomNode is one that mostly may be; now and then something in it may not.
func randomNode(r *rand.Rand) api.Node {
	m := map[int]int{}
	first, width := r.IntN(20), 1+r.IntN(60)
	for range r.IntN(11) {
		m[first+r.IntN(width)] = 1 + r.IntN(1023)
	}
	n := nodeOf(r.IntN(2) == 0, m)
	if len(n.Keys) == 0 {
		return n
	}
	at, other := r.IntN(len(n.Keys)), r.IntN(len(n.Keys))
	switch r.IntN(20) {
	case 0:
		n.Keys[at], n.Keys[other] = n.Keys[other], n.Keys[at]
	case 1:
		n.Keys[at] = n.Keys[other]
	case 2:
		n.Keys[at] = randomNumber(r, 1048576)
	case 3:
		n.Vals[at] = randomNumber(r, 1024)
	case 4:
		n.Vals = n.Vals[:at]
	case 5:
		n.Keys = n.Keys[:at]
	case 6:
		n.Keys[len(n.Keys)-1] = 1048575 - r.IntN(2)
	case 7:
		n.Keys[0] = r.IntN(2) - 1
	}
	return n
}

// randomNumber is one about 0, about a limit, at an end of what is, or anywhere.
func randomNumber(r *rand.Rand, limit int) int {
	switch r.IntN(5) {
	case 0:
		return r.IntN(5) - 2
	case 1:
		return limit + r.IntN(5) - 2
	case 2:
		return []int{math.MinInt, math.MaxInt}[r.IntN(2)]
	case 3:
		return int(r.Uint64())
	}
	return r.IntN(limit)
}

// TestChapter: nodes of any kind answer what the chapter has.
func TestChapter(t *testing.T) {
	r := rand.New(rand.NewPCG(11, 110))
	for range 20000 {
		a, b := randomNode(r), randomNode(r)
		asksOne(t, a, []int{r.IntN(80), randomNumber(r, 1048576)}, []int{1 + r.IntN(1023), randomNumber(r, 1024)}, []int{r.IntN(9), randomNumber(r, 8)})
		asksTwo(t, a, b)
		if t.Failed() {
			t.Fatalf("%v, %v", a, b)
		}
	}
}

// TestMap: behind Puts and Drops in any order, by which a node grows full and shrinks again, it may be, and Find finds just the keys of a map, with their values.
func TestMap(t *testing.T) {
	for _, isLeaf := range []bool{true, false} {
		r := rand.New(rand.NewPCG(11, 111))
		m := map[int]int{3: 4}
		n := nodeOf(isLeaf, m)
		sizes := map[int]bool{}
		for i := range 6000 {
			n = changes(t, n, m, r, i/60%2 == 0)
			has(t, n, m)
			if t.Failed() {
				t.Fatal(m)
			}
			sizes[len(m)] = true
		}
		for size := range 9 {
			if !sizes[size] && (isLeaf || size > 0) {
				t.Errorf("never %d Keys (leaf: %v)", size, isLeaf)
			}
		}
	}
}

// changes puts a random key, or drops it, in a node and in its map.
func changes(t *testing.T, n api.Node, m map[int]int, r *rand.Rand, grows bool) api.Node {
	t.Helper()
	key, val := r.IntN(14), 1+r.IntN(1023)
	at, ok := find(t, n, key)
	var got []api.Node
	e := api.ErrArg
	if grows {
		if got, e = put(t, n, key, val); e == api.OK {
			m[key] = val
		} else if ok || len(m) < 8 || e != api.ErrFull {
			t.Errorf("Put(%v, %d, %d) = %v", n, key, val, e)
		}
	} else if ok {
		if got, e = drop(t, n, at); e == api.OK {
			delete(m, key)
		} else if n.Leaf || len(m) > 1 || e != api.ErrNode {
			t.Errorf("Drop(%v, %d) = %v", n, at, e)
		}
	}
	if e == api.OK {
		return got[0]
	}
	return n
}

// has asks whether a node has just what a map has.
func has(t *testing.T, n api.Node, m map[int]int) {
	t.Helper()
	if e := check(t, n); e != api.OK || len(n.Keys) != len(m) {
		t.Errorf("%v (%v) is of the map %v", n, e, m)
	}
	for key := -1; key < 15; key++ {
		val, want := m[key]
		at, ok := find(t, n, key)
		if ok != want || ok && n.Vals[at] != val {
			t.Errorf("Find(%v, %d) = %d, %v of the map %v", n, key, at, ok, m)
		}
	}
}
