package volumes_test

import (
	"bytes"
	"maps"
	"math/rand/v2"
	"slices"
	"testing"

	"polder/api"
)

// chronicle is a bench whose disk may refuse anything, and what its volumes were behind each transaction.
type chronicle struct {
	*bench
	states  []told
	lasting int // how many transactions there were ahead of the last call that was synced and answered OK
}

// went takes one more transaction that was done.
func (c *chronicle) went(do func()) {
	do()
	c.states = append(c.states, c.told.kept())
}

// lasts takes what is answered by a call behind which all transactions are to last.
func (c *chronicle) lasts(e api.Errno) {
	if e == api.OK {
		c.lasting = len(c.states) - 1
	}
}

// calls takes what a catalogue's call answered: it was done, if its flush alone was refused.
func (c *chronicle) calls(e api.Errno, do func()) {
	c.Helper()
	switch e {
	case api.OK, api.ErrFlush:
		c.went(do)
	case api.ErrWrite:
	default:
		c.Fatalf("a call of the catalogue: %v", e)
	}
	c.lasts(e)
}

func (c *chronicle) create(size, quota int) {
	_, e := c.v.Create(size, quota)
	c.calls(e, func() { c.added(api.Volume{Size: size, Quota: quota}, map[int]string{}) })
}

// has tells whether there is such a volume: in a story that the disk cut short there may be none.
func (c *chronicle) has(id int) bool { return slices.Contains(c.live(), id) }

func (c *chronicle) snapshot(id int) {
	if c.has(id) {
		_, e := c.v.Snapshot(id)
		c.calls(e, func() { c.added(c.at(id).Volume, maps.Clone(c.at(id).m)) })
	}
}

func (c *chronicle) delete(id int) {
	if c.has(id) {
		c.calls(c.v.Delete(id), func() { c.at(id).State = api.VolumeDying })
	}
}

func (c *chronicle) resize(id, size int) {
	if c.has(id) {
		c.calls(c.v.Resize(id, size), func() { c.at(id).Size = size })
	}
}

func (c *chronicle) write(id, at int, data []byte, sync bool) {
	if !c.has(id) {
		return
	}
	many, e := c.v.Write(id, at, data, sync)
	for i := range many {
		c.went(func() { c.at(id).put(at+i, data[64*i:64*i+64]) })
	}
	if sync {
		c.lasts(e)
	}
}

func (c *chronicle) unmap(id, at, count int) {
	if !c.has(id) {
		return
	}
	many, _ := c.v.Unmap(id, at, count)
	for i := range many {
		c.went(func() { c.at(id).drop(at + i) })
	}
}

// story has volumes be made, written, shared, unmapped, resized and deleted. The log is gone round by it.
func (c *chronicle) story() {
	c.create(30, 30)
	c.write(1, 3, blocks(1, 8), false)
	c.create(40, 20)
	c.write(2, 0, blocks(20, 4), true)
	c.write(1, 5, blocks(30, 3), false)
	c.snapshot(1)
	c.write(1, 4, blocks(40, 3), false)
	c.write(3, 9, blocks(50, 4), false)
	c.unmap(3, 2, 3)
	c.resize(1, 20)
	c.lasts(c.p.Checkpoint())
	c.write(1, 12, blocks(60, 5), true)
	c.unmap(1, 3, 5)
	c.delete(1)
	c.write(3, 20, blocks(70, 2), false)
	c.lasts(c.v.Sync())
	c.write(2, 2, blocks(80, 3), false)
	c.delete(3)
	c.unmap(2, 0, 8)
}

// begins anew from what the volumes are.
func (c *chronicle) anew() {
	c.states, c.lasting = []told{c.told.kept()}, 0
}

// TestPrefix: the power goes at any write or flush: the volumes are as behind some number of the transactions, from the first on, at least behind those that are to last.
func TestPrefix(t *testing.T) {
	random := rand.New(rand.NewPCG(15, 8))
	seen := map[int]bool{}
	for n := 0; ; n++ {
		c := &chronicle{bench: laid(t, 130)}
		c.syncs()
		c.anew()
		c.is("Cut", c.d.Cut(n), api.OK)
		c.story()
		whole := c.v.Sync() == api.OK
		for range 2 {
			seen[c.comesBack(random)] = true
			c.anew()
			c.create(10, 10)
			for _, id := range c.live() {
				c.write(id, random.IntN(5), blocks(n, 3), false)
				c.unmap(id, random.IntN(9), 1)
			}
		}
		if t.Failed() {
			t.Fatalf("behind %d writes and flushes", n)
		}
		if whole {
			break
		}
	}
	if len(seen) < 30 {
		t.Errorf("only %v were seen", seen)
	}
}

// comesBack has the power go and come back, and go again while all is opened; it tells behind how many transactions the volumes are.
func (c *chronicle) comesBack(random *rand.Rand) int {
	c.Helper()
	for again := random.IntN(3); ; again-- {
		picks := slices.Repeat([]int{-1}, random.IntN(1+len(c.d.Dirty()))) // the first ones persist, as they were written last
		for range random.IntN(4) {
			picks = append(picks, random.IntN(9))
		}
		c.d.Crash(picks)
		if again <= 0 {
			break
		}
		c.is("Cut", c.d.Cut(random.IntN(12)), api.OK)
		if e := c.triesToOpen(); e != api.OK && e != api.ErrWrite && e != api.ErrFlush {
			c.Fatalf("Open = %v", e)
		}
	}
	c.opens()
	for k := len(c.states) - 1; k >= c.lasting; k-- {
		if c.matches(c.states[k]) {
			c.told = c.states[k].kept()
			c.sound()
			c.readsAll()
			return k
		}
	}
	c.Fatalf("the volumes are %v; that is as behind none of the %d to %d transactions", c.v.Catalogue(), c.lasting, len(c.states)-1)
	return 0
}

// matches tells whether the volumes are these.
func (c *chronicle) matches(x told) bool {
	now := c.v.Catalogue()
	if now.Next != x.next {
		return false
	}
	for i, v := range now.Volumes {
		v.Root = 0
		if v != x.places[i].Volume {
			return false
		}
		if v.State != api.VolumeLive {
			continue
		}
		for at := range v.Size {
			if data, e := c.v.Read(v.ID, at, 1); e != api.OK || !bytes.Equal(data, x.places[i].read(at, 1)) {
				return false
			}
		}
	}
	return true
}

// TestAgain: what was synced is there when all is opened anew, behind a crash too; what was done behind the last sync is lost, if nothing of it persists.
func TestAgain(t *testing.T) {
	b := inUse(t)
	b.syncs()
	for round := range 5 {
		was, before := b.state(), b.told.kept()
		b.writes(1, round, blocks(100*round, 6), false)
		b.unmaps(3, 2*round, 4)
		b.d.Crash(nil)
		b.opens()
		b.stays(was)
		b.told = before
		b.sound()
		b.readsAll()
		b.unmaps(3, 3*round, 2)
		b.writes(1, round, blocks(50*round, 6), round%2 == 0)
		if round%2 == 1 {
			b.resizes(1, 20)
		}
		was = b.state()
		b.d.Crash(nil)
		b.opens()
		b.stays(was)
		b.readsAll()
		if round == 2 {
			b.checkpoint()
		}
	}
}
