package node_test

import (
	"math"
	"slices"
	"testing"

	"polder/api"
	"polder/node"
)

// leaf is a leaf: a Key and its Val by turns.
func leaf(pairs ...int) api.Node {
	n := api.Node{Leaf: true}
	for i := 0; i < len(pairs); i += 2 {
		n.Keys = append(n.Keys, pairs[i])
		n.Vals = append(n.Vals, pairs[i+1])
	}
	return n
}

// inner is a node that is no leaf.
func inner(pairs ...int) api.Node { return as(false, leaf(pairs...)) }

// as is a node as a leaf, or as none.
func as(isLeaf bool, n api.Node) api.Node {
	n.Leaf = isLeaf
	return n
}

// many is a node of so many Keys, from 10 on, each 10 more than the one ahead of it, whose Vals are 1 more than their Keys.
func many(isLeaf bool, count int) api.Node { return from(isLeaf, 10, count) }

// from is such a node whose first Key is another one.
func from(isLeaf bool, first, count int) api.Node {
	n := api.Node{Leaf: isLeaf}
	for i := range count {
		n.Keys = append(n.Keys, first+10*i)
		n.Vals = append(n.Vals, first+10*i+1)
	}
	return n
}

// like tells whether two nodes are one.
func like(a, b api.Node) bool {
	return a.Leaf == b.Leaf && slices.Equal(a.Keys, b.Keys) && slices.Equal(a.Vals, b.Vals)
}

// is asks what was answered.
func is(t *testing.T, what string, e, wantE api.Errno, got []api.Node, want ...api.Node) {
	t.Helper()
	if e != wantE || !slices.EqualFunc(got, want, like) {
		t.Errorf("%s: %v, %v, not %v, %v", what, got, e, want, wantE)
	}
}

// refuses asks for an error, and that the nodes beside it are of nothing.
func refuses(t *testing.T, what string, e, want api.Errno, got []api.Node) {
	t.Helper()
	is(t, what, e, want, got, make([]api.Node, len(got))...)
}

// The calls, each with what it is handed in lent: they are not to change that, and to answer memory of their own.

func check(t *testing.T, n api.Node) api.Errno {
	t.Helper()
	x := lend(n)
	e := node.Check(x.node)
	x.kept(t, "Check")
	return e
}

func find(t *testing.T, n api.Node, key int) (int, bool) {
	t.Helper()
	x := lend(n)
	at, ok := node.Find(x.node, key)
	x.kept(t, "Find")
	return at, ok
}

func child(t *testing.T, n api.Node, key int) int {
	t.Helper()
	x := lend(n)
	at := node.Child(x.node, key)
	x.kept(t, "Child")
	return at
}

func put(t *testing.T, n api.Node, key, val int) ([]api.Node, api.Errno) {
	t.Helper()
	x := lend(n)
	got, e := node.Put(x.node, key, val)
	return own(t, "Put", []api.Node{got}, x), e
}

func drop(t *testing.T, n api.Node, at int) ([]api.Node, api.Errno) {
	t.Helper()
	x := lend(n)
	got, e := node.Drop(x.node, at)
	return own(t, "Drop", []api.Node{got}, x), e
}

func split(t *testing.T, n api.Node) ([]api.Node, api.Errno) {
	t.Helper()
	x := lend(n)
	a, b, e := node.Split(x.node)
	return own(t, "Split", []api.Node{a, b}, x), e
}

func join(t *testing.T, a, b api.Node) ([]api.Node, api.Errno) {
	t.Helper()
	x, y := lend(a), lend(b)
	got, e := node.Join(x.node, y.node)
	return own(t, "Join", []api.Node{got}, x, y), e
}

func share(t *testing.T, a, b api.Node) ([]api.Node, api.Errno) {
	t.Helper()
	x, y := lend(a), lend(b)
	c, d, e := node.Share(x.node, y.node)
	return own(t, "Share", []api.Node{c, d}, x, y), e
}

func TestExamples(t *testing.T) {
	n := leaf(3, 7, 5, 9)
	finds(t, n, 5, 1, true)
	finds(t, n, 4, 1, false)
	finds(t, n, 9, 2, false)
	below(t, n, 4, 0)
	below(t, n, 2, 0)
	below(t, n, 5, 1)

	got, e := put(t, n, 4, 8)
	is(t, "Put(n, 4, 8)", e, api.OK, got, leaf(3, 7, 4, 8, 5, 9))
	got, e = put(t, n, 5, 1)
	is(t, "Put(n, 5, 1)", e, api.OK, got, leaf(3, 7, 5, 1))
	got, e = put(t, n, -1, 8)
	refuses(t, "Put(n, -1, 8)", e, api.ErrArg, got)
	got, e = put(t, n, 4, 0)
	refuses(t, "Put(n, 4, 0)", e, api.ErrArg, got)

	got, e = drop(t, n, 0)
	is(t, "Drop(n, 0)", e, api.OK, got, leaf(5, 9))
	got, e = drop(t, n, 2)
	refuses(t, "Drop(n, 2)", e, api.ErrArg, got)

	got, e = split(t, n)
	is(t, "Split(n)", e, api.OK, got, leaf(3, 7), leaf(5, 9))
	got, e = join(t, leaf(3, 7), leaf(5, 9))
	is(t, "Join", e, api.OK, got, n)
	got, e = join(t, leaf(5, 9), leaf(3, 7))
	refuses(t, "Join turned round", e, api.ErrNode, got)
}

// mayBeEither are nodes that may be as a leaf and as none.
func mayBeEither() map[string]api.Node {
	return map[string]api.Node{
		"one Key":                       leaf(5, 7),
		"Key 0":                         leaf(0, 7),
		"Key 1":                         leaf(1, 7),
		"the last Key":                  leaf(1048575, 7),
		"Val 1":                         leaf(5, 1),
		"the last Val":                  leaf(5, 1023),
		"Keys side by side":             leaf(5, 7, 6, 8),
		"Vals that fall":                leaf(5, 8, 6, 7),
		"Vals that are equal":           leaf(5, 8, 6, 8),
		"Vals that are the Keys":        leaf(5, 5, 6, 6),
		"the first and the last Key":    leaf(0, 1, 1048575, 1023),
		"the two last Keys":             leaf(1048574, 1023, 1048575, 1),
		"seven Keys":                    many(true, 7),
		"eight Keys":                    many(true, 8),
		"eight Keys, the edges":         leaf(0, 1023, 1, 1, 2, 1023, 3, 1, 1048572, 1, 1048573, 1023, 1048574, 1, 1048575, 1023),
		"eight Keys of one Val":         leaf(1, 9, 2, 9, 3, 9, 4, 9, 5, 9, 6, 9, 7, 9, 8, 9),
		"Keys far beyond any Val":       leaf(5000, 7, 6000, 8),
		"a Key that 16 bits don't have": leaf(65535, 7, 65536, 8, 65537, 9),
	}
}

// badEither are nodes that may not be, as a leaf or as none.
func badEither() map[string]api.Node {
	l := map[string]api.Node{
		"nine Keys":               many(true, 9),
		"ten Keys":                many(true, 10),
		"sixteen Keys":            many(true, 16),
		"256 Keys":                many(true, 256),
		"257 Keys":                many(true, 257),
		"264 Keys":                many(true, 264),
		"nine Keys of small Vals": leaf(1, 1, 2, 2, 3, 3, 4, 4, 5, 5, 6, 6, 7, 7, 8, 8, 9, 9),
		"a Key without Vals":      {Keys: []int{5}},
		"two Keys, one Val":       {Keys: []int{5, 6}, Vals: []int{7}},
		"eight Keys, seven Vals":  {Keys: many(true, 8).Keys, Vals: many(true, 7).Vals},
		"eight Keys, no Val":      {Keys: many(true, 8).Keys},
		"a Val without Keys":      {Vals: []int{7}},
		"one Key, two Vals":       {Keys: []int{5}, Vals: []int{7, 8}},
		"eight Keys, nine Vals":   {Keys: many(true, 8).Keys, Vals: many(true, 9).Vals},
		"one Key, 257 Vals":       {Keys: []int{5}, Vals: many(true, 257).Vals},
		"seven Keys, eight Vals":  {Keys: many(true, 7).Keys, Vals: many(true, 8).Vals},
		"no Keys, eight Vals":     {Vals: many(true, 8).Vals},
		"equal Keys":              leaf(5, 7, 5, 8),
		"equal Keys and Vals":     leaf(5, 7, 5, 7),
		"equal Keys of 0":         leaf(0, 7, 0, 8),
		"equal Keys, the last":    leaf(3, 7, 4, 8, 5, 9, 5, 10),
		"equal Keys, in between":  leaf(3, 7, 4, 8, 4, 9, 5, 10),
		"equal Keys, the first":   leaf(3, 7, 3, 8, 4, 9, 5, 10),
		"equal Keys, far apart":   leaf(3, 7, 4, 8, 3, 9),
		"falling Keys":            leaf(6, 7, 5, 8),
		"falling Keys, the first": leaf(6, 7, 5, 8, 7, 9),
		"falling Keys, the last":  leaf(5, 7, 7, 8, 6, 9),
		"all falling Keys":        leaf(8, 1, 7, 2, 6, 3, 5, 4, 4, 5, 3, 6, 2, 7, 1, 8),
		"a seventh out of order":  leaf(1, 1, 2, 2, 3, 3, 4, 4, 5, 5, 6, 6, 9, 7, 8, 8),
	}
	for name, key := range map[string]int{"below 0": -1, "far below 0": -1048575, "at its limit": 1048576, "above its limit": 1048577, "that 32 bits don't have": 1 << 32,
		"that 32 bits don't have, and a bit": 1<<32 + 5, "the least": math.MinInt, "the greatest": math.MaxInt} {
		l["one Key "+name] = leaf(key, 7)
		first, last := many(true, 8), many(true, 8)
		first.Keys[0], last.Keys[7] = key, key
		if key < 0 {
			l["the first Key "+name] = first
		} else {
			l["the last Key "+name] = last
		}
	}
	l["all Keys below 0"] = leaf(-3, 7, -2, 8, -1, 9)
	l["all Keys beyond the limit"] = leaf(1048576, 7, 1048577, 8)
	for name, val := range map[string]int{"0": 0, "below 0": -1, "far below 0": -1023, "at its limit": 1024, "above its limit": 1025, "that 16 bits don't have": 1<<16 + 5,
		"that 32 bits don't have": 1<<32 + 5, "the least": math.MinInt, "the greatest": math.MaxInt} {
		l["one Val "+name] = leaf(5, val)
		for at := range 8 {
			n := many(true, 8)
			n.Vals[at] = val
			l["a Val "+name+" at "+string(rune('0'+at))] = n
		}
	}
	return l
}

func TestCheck(t *testing.T) {
	for name, n := range mayBeEither() {
		for _, isLeaf := range []bool{true, false} {
			if e := check(t, as(isLeaf, n)); e != api.OK {
				t.Errorf("%s (leaf: %v): %v", name, isLeaf, e)
			}
		}
	}
	for name, n := range badEither() {
		for _, isLeaf := range []bool{true, false} {
			if e := check(t, as(isLeaf, n)); e != api.ErrNode {
				t.Errorf("%s (leaf: %v): %v", name, isLeaf, e)
			}
		}
	}
	for count := range 12 {
		for _, isLeaf := range []bool{true, false} {
			want := api.OK
			if count > 8 || count == 0 && !isLeaf {
				want = api.ErrNode
			}
			if e := check(t, many(isLeaf, count)); e != want {
				t.Errorf("%d Keys (leaf: %v): %v, not %v", count, isLeaf, e, want)
			}
		}
	}
}

// TestCheckEmpty: only a leaf may be without Keys; whether its lists are nil or empty is one.
func TestCheckEmpty(t *testing.T) {
	for _, l := range []struct{ keys, vals []int }{{nil, nil}, {[]int{}, nil}, {nil, []int{}}, {[]int{}, []int{}}} {
		if e := node.Check(api.Node{Leaf: true, Keys: l.keys, Vals: l.vals}); e != api.OK {
			t.Errorf("a leaf without Keys: %v", e)
		}
		if e := node.Check(api.Node{Keys: l.keys, Vals: l.vals}); e != api.ErrNode {
			t.Errorf("an inner node without Keys: %v", e)
		}
	}
}

// TestCheckLong: a list of any length ends.
func TestCheckLong(t *testing.T) {
	n := api.Node{Leaf: true}
	for i := range 1 << 18 {
		n.Keys = append(n.Keys, i)
		n.Vals = append(n.Vals, 1+i%1023)
	}
	if e := node.Check(n); e != api.ErrNode {
		t.Errorf("a leaf of many Keys: %v", e)
	}
	finds(t, n, 1<<18-1, 1<<18-1, true)
	finds(t, n, 1<<18, 1<<18, false)
	below(t, n, 1<<18, 1<<18-1)
}
