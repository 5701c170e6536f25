package thin_test

import (
	"maps"
	"math/rand/v2"
	"slices"
	"testing"

	"polder/api"
)

// keep is the volumes as they are, apart from what they will be.
func (b *bench) keep() []*kept {
	var l []*kept
	for _, x := range b.volumes {
		l = append(l, &kept{x.Volume, maps.Clone(x.m)})
	}
	return l
}

// TestAgain: what was committed and synced is read again when the pool is opened anew, behind a crash too; what was done behind the Sync is lost.
func TestAgain(t *testing.T) {
	b, _, _ := grown(t, 30)
	b.is("Sync", b.p.Sync(), api.OK)
	b.opens()
	for round := range 5 {
		was, volumes := b.state(), b.keep()
		for i := range 6 {
			b.begins()
			b.put(b.volumes[i%2], 10*i, fill(100*round+i))
			b.drop(b.volumes[1-i%2], 10*(5*round+i))
			if i < 5 {
				b.commits()
			}
		}
		b.d.Crash(nil)
		b.opens()
		b.stays(was)
		b.volumes = volumes
		b.sound()
		for _, x := range b.volumes {
			b.readsAll(x)
			b.writes(x, 500+round, fill(round))
			b.unmaps(x, 20*round)
		}
		if round%2 == 0 {
			b.checkpoint()
		}
		b.is("Sync", b.p.Sync(), api.OK)
		b.d.Crash(nil)
		b.opens()
		b.sound()
		for _, x := range b.volumes {
			b.readsAll(x)
		}
	}
}

// chronicle is a pool in which volumes are changed, and what it was behind each transaction.
type chronicle struct {
	*bench
	states  []state
	kept    [][]*kept
	lasting int // how many transactions there were ahead of the last Sync or Checkpoint that was answered OK
}

// does asks for a change in a transaction; behind a cut the disk may refuse it.
func (c *chronicle) does(call func()) {
	c.Helper()
	was := c.keep()
	c.begins()
	call()
	if c.p.Commit() != api.OK {
		c.volumes = was
		return
	}
	c.states, c.kept = append(c.states, c.state()), append(c.kept, c.keep())
}

// lasts takes what is answered by a call behind which all transactions are to last.
func (c *chronicle) lasts(e api.Errno) {
	if e == api.OK {
		c.lasting = len(c.states) - 1
	}
}

// story has volumes be written, be shared and unmapped.
func (c *chronicle) story() {
	c.Helper()
	for i := range 12 {
		c.does(func() { c.put(c.volumes[0], 3*i, fill(i)) })
	}
	c.lasts(c.p.Sync())
	c.does(func() {
		x, y := c.volumes[0], c.volumes[1]
		if x.Root != 0 {
			c.is("Ref", c.p.Ref(x.Root), api.OK)
			y.Root, y.Mapped, y.m = x.Root, x.Mapped, maps.Clone(x.m)
		}
	})
	for i := range 5 {
		c.does(func() { c.drop(c.volumes[1], 6*i) })
	}
	c.lasts(c.p.Checkpoint())
	for i := range 6 {
		c.does(func() { c.put(c.volumes[i%2], 33-i, fill(99+i)) })
		c.does(func() { c.drop(c.volumes[0], 3*i) })
	}
}

// TestPrefix: the power goes at any write or flush of a story: each block reads as behind some number of its transactions, from the first on, at least behind those that are to last.
func TestPrefix(t *testing.T) {
	random := rand.New(rand.NewPCG(14, 7))
	seen := map[int]bool{}
	for n := 0; ; n++ {
		c := &chronicle{bench: laid(t, 100)}
		c.volume(50, 50)
		c.volume(50, 50)
		c.is("Sync", c.p.Sync(), api.OK)
		c.states, c.kept = append(c.states, c.state()), append(c.kept, c.keep())
		c.is("Cut", c.d.Cut(n), api.OK)
		c.story()
		whole := c.p.Sync() == api.OK
		for range 2 {
			seen[c.comesBack(random)] = true
			c.unmaps(c.volumes[0], 9)
			c.writes(c.volumes[1], 9, fill(n))
			c.is("Sync", c.p.Sync(), api.OK)
			c.states, c.kept, c.lasting = []state{c.state()}, [][]*kept{c.keep()}, 0
		}
		if t.Failed() {
			t.Fatalf("behind %d writes and flushes", n)
		}
		if whole {
			break
		}
	}
	if len(seen) < 10 {
		t.Errorf("only %v were seen", seen)
	}
}

// comesBack has the power go and come back; it tells behind how many transactions the pool is.
func (c *chronicle) comesBack(random *rand.Rand) int {
	c.Helper()
	picks := slices.Repeat([]int{-1}, random.IntN(1+len(c.d.Dirty()))) // the first ones persist, as they were written last
	for range random.IntN(4) {
		picks = append(picks, random.IntN(9))
	}
	c.d.Crash(picks)
	c.opens()
	now := c.state()
	k := slices.IndexFunc(c.states, func(x state) bool { return alike(x, now) })
	if k < c.lasting {
		c.Fatalf("the pool is as behind %d transactions; %d were to last", k, c.lasting)
	}
	c.volumes = c.kept[k]
	c.sound()
	for _, x := range c.volumes {
		c.reads(x, each(0, 49)...)
	}
	c.kept[k] = c.keep()
	return k
}
