package ranges_test

import (
	"math/rand/v2"
	"slices"
	"testing"

	"polder/api"
	"polder/ranges"
)

// bounds are numbers at and about the keys of a tree, and about the least and the greatest there may be.
func bounds(x *kept, step int) []int {
	l := []int{least, -5, -1, 0, 1, maxBlocks - 1, maxBlocks, maxBlocks + 1, most}
	for i, e := range entries(x.m) {
		if i%step == 0 {
			l = append(l, e.Key-1, e.Key, e.Key+1)
		}
	}
	slices.Sort(l)
	return slices.Compact(l)
}

// TestScan: any range of trees of any number of levels, as many entries as are asked for.
func TestScan(t *testing.T) {
	seen := map[int]bool{}
	for i, many := range []int{0, 1, 2, 7, 8, 9, 17, 40, 110, 330} {
		b := laid(t, 700)
		keys := mixed(many)
		if i%2 == 1 {
			keys = each(10, many, 10) // which leaves nodes half full: more levels
		}
		x := b.plants(keys...)
		seen[b.levels(x.root)] = true
		l := bounds(x, 1+many/12)
		for _, from := range l {
			for _, to := range l {
				b.scans(x, from, to, most)
				for _, limit := range []int{least, -1, 0, 1, 2, 9, many - 1, many, many + 1} {
					b.scans(x, from, to, limit)
				}
			}
		}
	}
	if len(seen) < 5 {
		t.Errorf("trees of %v levels", seen)
	}
}

// TestScanEnds: the least key and the greatest that there may be.
func TestScanEnds(t *testing.T) {
	b := laid(t, 150)
	x := b.plants(0, maxBlocks-1)
	for _, from := range []int{least, -1, 0, 1, maxBlocks - 1, maxBlocks, most} {
		for _, to := range []int{least, 0, 1, maxBlocks - 1, maxBlocks, most} {
			b.scans(x, from, to, 3)
		}
	}
	y := b.plants(append(each(0, 30, 1), each(maxBlocks-30, 30, 1)...)...)
	b.scans(y, least, most, most)
	b.scans(y, 29, maxBlocks-30, 9)
	b.scans(y, 30, maxBlocks-30, 9)
	b.scans(y, 30, maxBlocks-29, 9)
}

// TestScanLeaves: ranges that begin or end at a leaf's end, or between two leaves.
func TestScanLeaves(t *testing.T) {
	b := laid(t, 400)
	x := b.plants(mixed(120)...)
	for _, n := range b.nodes(x.root) {
		node := b.node(n)
		if !node.Leaf {
			continue
		}
		first, last := node.Keys[0], node.Keys[len(node.Keys)-1]
		for _, from := range []int{first - 10, first - 1, first, first + 1, last - 1, last, last + 1} {
			for _, to := range []int{first - 1, first, first + 1, last, last + 1, last + 10, last + 11, last + 60} {
				for limit := range 12 {
					b.scans(x, from, to, limit)
				}
			}
		}
	}
}

// TestScanBeside: two ranges side by side are one; so are what is asked piece by piece and at once.
func TestScanBeside(t *testing.T) {
	b := laid(t, 700)
	x := b.plants(mixed(330)...)
	r := rand.New(rand.NewPCG(13, 1))
	scan := func(from, to, limit int) []api.Entry {
		l, e := ranges.Scan(b.p, x.root, from, to, limit)
		b.is("Scan", e, api.OK)
		return l
	}
	for range 300 {
		cuts := []int{r.IntN(3400), r.IntN(3400), r.IntN(3400)}
		slices.Sort(cuts)
		all := scan(cuts[0], cuts[2], most)
		if beside := append(scan(cuts[0], cuts[1], most), scan(cuts[1], cuts[2], most)...); !slices.Equal(beside, all) {
			t.Fatalf("%v: %v, not %v", cuts, beside, all)
		}
		var pieces []api.Entry
		for from := cuts[0]; ; {
			l := scan(from, cuts[2], 3)
			if pieces = append(pieces, l...); len(l) < 3 {
				break
			}
			from = l[2].Key + 1
		}
		if !slices.Equal(pieces, all) {
			t.Fatalf("%v: %v, not %v", cuts, pieces, all)
		}
	}
}

// TestScanByHand: a tree whose inner Keys are less than the least ones below, and whose nodes have as few Keys as may be, or as many.
func TestScanByHand(t *testing.T) {
	b := laid(t, 200)
	val := b.holds(data(1))
	x := &kept{m: map[int]int{}}
	next := 0
	leaves := func(many, keys int) api.Node {
		n := inner()
		for range many {
			l := leaf()
			n.Keys = append(n.Keys, next)
			for range keys {
				next += 10
				l.Keys, l.Vals = append(l.Keys, next), append(l.Vals, val)
				x.m[next] = val
			}
			next += 10
			n.Vals = append(n.Vals, b.holds(nodePage(l)))
		}
		return n
	}
	few, full := leaves(4, 4), leaves(8, 8)
	x.root = b.holds(nodePage(inner(0, b.holds(nodePage(few)), full.Keys[0], b.holds(nodePage(full)))))
	for from := -5; from < next+10; from += 5 {
		for to := -5; to < next+10; to += 5 {
			b.scans(x, from, to, 7)
			b.scans(x, from, to, most)
		}
	}
}

// TestScanUnder: in a transaction that is under way a Scan tells what was done in it; it writes nothing and changes no count.
func TestScanUnder(t *testing.T) {
	b := laid(t, 200)
	x := b.plants(mixed(40)...)
	b.checkpoint()
	was := b.state()
	b.scans(x, 0, 500, 100)
	b.stays(was)
	if len(b.p.Dirty()) > 0 || b.p.Under() {
		t.Errorf("%v is dirty", b.p.Dirty())
	}
	b.begins()
	b.put(x, 55, b.fresh(data(1)))
	b.drop(x, 60)
	b.scans(x, 0, 500, 100)
	b.scans(x, 51, 71, 1)
	b.commits()
	b.scans(x, 0, 500, 100)
	b.sound()
}

// TestScanMemory: what is answered is new memory, and stays as it is.
func TestScanMemory(t *testing.T) {
	b := laid(t, 200)
	x := b.plants(mixed(40)...)
	first, _ := ranges.Scan(b.p, x.root, 0, 500, 20)
	kept := slices.Clone(first)
	second, _ := ranges.Scan(b.p, x.root, 0, 500, 20)
	for i := range second[:cap(second)] {
		second[:cap(second)][i] = api.Entry{Key: -1, Val: -1}
	}
	if !slices.Equal(first, kept) {
		t.Errorf("%v became %v", kept, first)
	}
	b.scans(x, 0, 500, 20)
	b.sound()
}

// reads is how many times a call reads the disk; it is asked again and again till none fails.
func (b *bench) reads(call func() api.Errno) int {
	b.Helper()
	for n := 1; ; n++ {
		b.is("Fail", b.d.Fail(api.FailRead, n), api.OK)
		e := call()
		if e == api.OK {
			for e == api.OK { // the one that is still to fail
				_, e = b.d.Read(0, 1)
			}
			return n - 1
		}
		b.is("a call", e, api.ErrRead)
	}
}

// TestScanReads: what is read are the nodes on the ways to what is told alone, so that the work is bounded; nothing for no entries.
func TestScanReads(t *testing.T) {
	b := laid(t, 900)
	x := b.plants(mixed(420)...)
	b.checkpoint()
	levels := b.levels(x.root)
	for _, s := range []struct{ from, to, limit, most int }{
		{10, 10, 9, 0}, {20, 10, 9, 0}, {least, 0, 9, 0}, {maxBlocks, most, 9, 0}, {0, 9999, 0, 0}, {0, 9999, least, 0},
		{10, 11, 9, levels}, {0, 9999, 1, levels}, {2000, 2001, 9, levels}, {2005, 2006, 9, levels}, {4200, 9999, 9, levels},
		{0, 9999, 2, 2 * levels}, {2000, 9999, 2, 2 * levels}, {2005, 2025, 9, 2 * levels},
	} {
		got := b.reads(func() api.Errno {
			l, e := ranges.Scan(b.p, x.root, s.from, s.to, s.limit)
			if e != api.OK && len(l) > 0 {
				t.Errorf("%v beside %v", l, e)
			}
			return e
		})
		if got > s.most || s.most > 0 && got < levels {
			t.Errorf("%v: %d reads of %d levels", s, got, levels)
		}
	}
	for _, root := range []int{least, -1, 0, 1, 899, 900, most} {
		for _, s := range [][3]int{{5, 5, 9}, {9, 5, 9}, {0, 9, 0}, {0, 9, -1}, {-9, 0, 5}, {maxBlocks, maxBlocks + 9, 5}} {
			if l, e := ranges.Scan(b.p, root, s[0], s[1], s[2]); len(l) > 0 || e != api.OK {
				t.Errorf("Scan(%d, %v) = %v, %v", root, s, l, e)
			}
		}
	}
}
