package tree_test

import (
	"maps"
	"math/rand/v2"
	"slices"
	"testing"

	"polder/api"
)

// keep is the trees as they are, apart from what they will be.
func (b *bench) keep() []*kept {
	var l []*kept
	for _, x := range b.trees {
		l = append(l, &kept{root: x.root, m: maps.Clone(x.m)})
	}
	return l
}

// TestAgain: a pool that is synced and opened anew has the same trees; behind a crash, too, whatever was done behind the Sync and is lost.
func TestAgain(t *testing.T) {
	b, x, y := twins(t, 60)
	b.deletes(y, each(100, 20, 10)...)
	b.inserts(x, 7, 9)
	b.is("Sync", b.p.Sync(), api.OK)
	b.opens()
	b.sound()
	for round := range 4 {
		was := b.state()
		trees := b.keep()
		for i := range 5 {
			b.begins()
			b.put(b.trees[i%2], 1000+i, b.fresh(data(9)))
			b.drop(b.trees[1-i%2], 10*(5*round+i))
			if i < 4 {
				b.commits()
			}
		}
		b.d.Crash(nil)
		b.opens()
		b.stays(was)
		b.trees = trees
		b.sound()
		b.inserts(b.trees[round%2], 5000+round)
		b.deletes(b.trees[round%2], 40)
		if round%2 == 0 {
			b.checkpoint()
		}
		b.is("Sync", b.p.Sync(), api.OK)
	}
	b.looks(b.trees[0], 0, 700)
	b.looks(b.trees[1], 0, 700)
}

// chronicle is a pool in which trees are changed, and what it was behind each transaction.
type chronicle struct {
	*bench
	states  []state
	trees   [][]*kept
	lasting int // how many transactions there were ahead of the last Sync or Checkpoint that was answered OK
}

// does asks for a change in a transaction; behind a cut the disk may refuse it.
func (c *chronicle) does(call func()) {
	c.Helper()
	was := c.keep()
	c.begins()
	call()
	if c.p.Commit() != api.OK {
		c.bench.trees = was
		return
	}
	c.states, c.trees = append(c.states, c.state()), append(c.trees, c.keep())
}

// lasts takes what is answered by a call behind which all transactions are to last.
func (c *chronicle) lasts(e api.Errno) {
	if e == api.OK {
		c.lasting = len(c.states) - 1
	}
}

// chronicled is a new one.
func chronicled(t *testing.T) *chronicle {
	t.Helper()
	c := &chronicle{bench: laid(t, 100)}
	c.plant()
	c.plant()
	c.is("Sync", c.p.Sync(), api.OK)
	c.states, c.trees = append(c.states, c.state()), append(c.trees, c.keep())
	return c
}

// story has trees grow, be shared and shrink.
func (c *chronicle) story() {
	c.Helper()
	tree := func(i int) *kept { return c.bench.trees[i] }
	for i := range 12 {
		c.does(func() { c.put(tree(0), 3*i, c.fresh(data(byte(i)))) })
	}
	c.lasts(c.p.Sync())
	c.does(func() {
		if x := tree(0); x.root != 0 {
			c.is("Ref", c.p.Ref(x.root), api.OK)
			*tree(1) = kept{root: x.root, m: maps.Clone(x.m)}
		}
	})
	for i := range 5 {
		c.does(func() { c.drop(tree(1), 6*i) })
	}
	c.lasts(c.p.Checkpoint())
	for i := range 6 {
		c.does(func() { c.put(tree(i%2), 50-i, c.fresh(data(99))) })
		c.does(func() { c.drop(tree(0), 3*i) })
	}
}

// TestPrefix: the power goes at any write or flush of a story: trees are as behind some number of its transactions, from the first on, at least behind those that are to last.
func TestPrefix(t *testing.T) {
	random := rand.New(rand.NewPCG(12, 7))
	seen := map[int]bool{}
	for n := 0; ; n++ {
		c := chronicled(t)
		c.is("Cut", c.d.Cut(n), api.OK)
		c.story()
		whole := c.p.Sync() == api.OK
		for range 3 {
			k := c.comesBack(random)
			seen[k] = true
			c.deletes(c.bench.trees[0], 9)
			c.inserts(c.bench.trees[1], 9)
			c.is("Sync", c.p.Sync(), api.OK)
			c.states, c.trees, c.lasting = []state{c.state()}, [][]*kept{c.keep()}, 0
		}
		if t.Failed() {
			t.Fatalf("behind %d writes and flushes", n)
		}
		if whole {
			break
		}
	}
	if len(seen) < 10 {
		t.Errorf("only %v were seen", seen)
	}
}

// comesBack has the power go and come back; it tells behind how many transactions the pool is.
func (c *chronicle) comesBack(random *rand.Rand) int {
	c.Helper()
	picks := slices.Repeat([]int{-1}, random.IntN(1+len(c.d.Dirty()))) // the first ones persist, as they were written last
	for range random.IntN(4) {
		picks = append(picks, random.IntN(9))
	}
	c.d.Crash(picks)
	c.opens()
	now := c.state()
	k := slices.IndexFunc(c.states, func(x state) bool { return alike(x, now) })
	if k < c.lasting {
		c.Fatalf("the pool is as behind %d transactions; %d were to last", k, c.lasting)
	}
	c.bench.trees = c.trees[k]
	c.sound()
	c.trees[k] = c.keep()
	return k
}
