package node_test

import (
	"math"
	"testing"

	"polder/api"
)

// finds asks what Find tells.
func finds(t *testing.T, n api.Node, key, wantAt int, want bool) {
	t.Helper()
	if at, ok := find(t, n, key); at != wantAt || ok != want {
		t.Errorf("Find(%v, %d) = %d, %v, not %d, %v", brief(n.Keys), key, at, ok, wantAt, want)
	}
}

// below asks what Child tells.
func below(t *testing.T, n api.Node, key, want int) {
	t.Helper()
	if at := child(t, n, key); at != want {
		t.Errorf("Child(%v, %d) = %d, not %d", brief(n.Keys), key, at, want)
	}
}

// brief is a list's beginning.
func brief(l []int) []int { return l[:min(len(l), 24)] }

// asked is a key, what Find tells of it, and what Child does.
type asked struct {
	key, at int
	found   bool
	child   int
}

// TestFindChild: by hand, of nodes that may be and of any other Keys, of leaves and inner nodes.
func TestFindChild(t *testing.T) {
	least, greatest := math.MinInt, math.MaxInt
	for _, c := range []struct {
		name string
		keys []int
		asks []asked
	}{
		{"none", nil, []asked{{least, 0, false, 0}, {-1, 0, false, 0}, {0, 0, false, 0}, {5, 0, false, 0}, {greatest, 0, false, 0}}},
		{"one", []int{5}, []asked{{least, 0, false, 0}, {0, 0, false, 0}, {4, 0, false, 0}, {5, 0, true, 0}, {6, 1, false, 0}, {greatest, 1, false, 0}}},
		{"Key 0", []int{0}, []asked{{-1, 0, false, 0}, {0, 0, true, 0}, {1, 1, false, 0}}},
		{"two", []int{3, 5}, []asked{{2, 0, false, 0}, {3, 0, true, 0}, {4, 1, false, 0}, {5, 1, true, 1}, {6, 2, false, 1}, {9, 2, false, 1}}},
		{"three", []int{3, 5, 9}, []asked{{2, 0, false, 0}, {3, 0, true, 0}, {4, 1, false, 0}, {5, 1, true, 1}, {6, 2, false, 1}, {8, 2, false, 1}, {9, 2, true, 2}, {10, 3, false, 2}}},
		{"side by side", []int{4, 5, 6}, []asked{{3, 0, false, 0}, {4, 0, true, 0}, {5, 1, true, 1}, {6, 2, true, 2}, {7, 3, false, 2}}},
		{"eight", []int{10, 20, 30, 40, 50, 60, 70, 80}, []asked{{least, 0, false, 0}, {9, 0, false, 0}, {10, 0, true, 0}, {15, 1, false, 0}, {40, 3, true, 3}, {45, 4, false, 3},
			{79, 7, false, 6}, {80, 7, true, 7}, {81, 8, false, 7}, {1048576, 8, false, 7}, {greatest, 8, false, 7}}},
		{"ten", []int{0, 1, 2, 3, 4, 5, 6, 7, 8, 9}, []asked{{-1, 0, false, 0}, {7, 7, true, 7}, {8, 8, true, 8}, {9, 9, true, 9}, {10, 10, false, 9}}},
		{"doubled, first", []int{3, 3, 5}, []asked{{2, 0, false, 0}, {3, 0, true, 1}, {4, 2, false, 1}, {5, 2, true, 2}, {6, 3, false, 2}}},
		{"doubled, last", []int{3, 5, 5}, []asked{{2, 0, false, 0}, {3, 0, true, 0}, {4, 1, false, 0}, {5, 1, true, 2}, {6, 3, false, 2}}},
		{"all one", []int{7, 7, 7, 7}, []asked{{6, 0, false, 0}, {7, 0, true, 3}, {8, 4, false, 3}}},
		{"falling", []int{9, 5, 3}, []asked{{2, 0, false, 0}, {3, 0, false, 0}, {5, 0, false, 0}, {8, 0, false, 0}, {9, 0, true, 2}, {10, 3, false, 2}}},
		{"a dip", []int{5, 3, 9}, []asked{{2, 0, false, 0}, {3, 0, false, 0}, {4, 0, false, 0}, {5, 0, true, 1}, {6, 2, false, 1}, {8, 2, false, 1}, {9, 2, true, 2}, {10, 3, false, 2}}},
		{"a peak", []int{3, 9, 4}, []asked{{2, 0, false, 0}, {3, 0, true, 0}, {4, 1, false, 0}, {5, 1, false, 0}, {8, 1, false, 0}, {9, 1, true, 2}, {10, 3, false, 2}}},
		{"a peak, and on", []int{3, 9, 4, 5}, []asked{{4, 1, false, 0}, {5, 1, false, 0}, {9, 1, true, 3}, {10, 4, false, 3}}},
		{"below 0", []int{-5, -3, 2}, []asked{{-6, 0, false, 0}, {-5, 0, true, 0}, {-4, 1, false, 0}, {-3, 1, true, 1}, {0, 2, false, 1}, {2, 2, true, 2}, {3, 3, false, 2}}},
		{"the ends of what is", []int{least, 0, greatest}, []asked{{least, 0, true, 0}, {least + 1, 1, false, 0}, {-1, 1, false, 0}, {0, 1, true, 1}, {1, 2, false, 1},
			{greatest - 1, 2, false, 1}, {greatest, 2, true, 2}}},
		{"the ends, turned round", []int{greatest, least}, []asked{{least, 0, false, 0}, {0, 0, false, 0}, {greatest, 0, true, 1}}},
		{"the last Keys", []int{1048574, 1048575}, []asked{{1048573, 0, false, 0}, {1048574, 0, true, 0}, {1048575, 1, true, 1}, {1048576, 2, false, 1}}},
	} {
		for _, n := range shaped(c.keys) {
			for _, a := range c.asks {
				finds(t, n, a.key, a.at, a.found)
				below(t, n, a.key, a.child)
			}
		}
		if t.Failed() {
			t.Fatal(c.name)
		}
	}
}

// shaped are nodes of these Keys, leaves and inner ones, with Vals as many as may be, none, and too many: Find and Child don't hang on them.
func shaped(keys []int) []api.Node {
	var l []api.Node
	for _, isLeaf := range []bool{true, false} {
		for _, count := range []int{0, len(keys), len(keys) + 3} {
			l = append(l, api.Node{Leaf: isLeaf, Keys: keys, Vals: many(isLeaf, count).Vals})
		}
	}
	return l
}

// TestFindMany: in nodes of any number of Keys, of each Key and of those about it.
func TestFindMany(t *testing.T) {
	for count := range 30 {
		for _, isLeaf := range []bool{true, false} {
			n := many(isLeaf, count)
			for i := range count {
				key := 10 + 10*i
				finds(t, n, key-1, i, false)
				finds(t, n, key, i, true)
				finds(t, n, key+1, i+1, false)
				below(t, n, key-1, max(0, i-1))
				below(t, n, key, i)
				below(t, n, key+1, i)
			}
		}
	}
}
