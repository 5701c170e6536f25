package check_test

import (
	"bytes"
	"slices"
	"testing"

	"polder/api"
	"polder/check"
	"polder/disk"
	"polder/pool"
	"polder/store"
	"polder/sweep"
	"polder/tree"
	"polder/volumes"
)

// never is an ordinal that no test comes to: a disk that is to fail there does not.
const never = 1 << 40

// bench is a pool in a test, and its volumes.
type bench struct {
	*testing.T
	d     *disk.Disk
	pages int
	p     *pool.Pool
	v     *volumes.Volumes
}

// laid is a new pool of so many pages, with a log behind them, and its empty catalogue.
func laid(t *testing.T, pages int) *bench { t.Helper(); return laidWith(t, pages, 200) }

// laidWith is one whose log has so many sectors.
func laidWith(t *testing.T, pages, logSize int) *bench {
	t.Helper()
	d, e := disk.New(2 + pages + logSize)
	if e != api.OK {
		t.Fatalf("disk.New: %v", e)
	}
	b := &bench{T: t, d: d, pages: pages}
	b.is("Format", pool.Format(d, pages, 2+pages, logSize), api.OK)
	b.opens()
	return b
}

// opens opens the pool and its catalogue, anew.
func (b *bench) opens() {
	b.Helper()
	if e := b.triesToOpen(); e != api.OK {
		b.Fatalf("opened: %v", e)
	}
}

// triesToOpen does so, where the disk may refuse it.
func (b *bench) triesToOpen() api.Errno {
	b.Helper()
	s, e := store.Open(b.d)
	if e != api.OK {
		return e
	}
	p, e := pool.Open(s)
	if e != api.OK {
		return e
	}
	v, e := volumes.Open(p)
	if e != api.OK {
		return e
	}
	b.p, b.v = p, v
	return api.OK
}

// is asks what a call answered.
func (b *bench) is(call string, got, want api.Errno) {
	b.Helper()
	if got != want {
		b.Fatalf("%s = %v, not %v", call, got, want)
	}
}

func (b *bench) begins()     { b.Helper(); b.is("Begin", b.p.Begin(), api.OK) }
func (b *bench) commits()    { b.Helper(); b.is("Commit", b.p.Commit(), api.OK) }
func (b *bench) syncs()      { b.Helper(); b.is("Sync", b.v.Sync(), api.OK) }
func (b *bench) checkpoint() { b.Helper(); b.is("Checkpoint", b.p.Checkpoint(), api.OK) }

// firstPages is how many pages are the catalogue and the counts.
func firstPages(pages int) int { return 1 + (pages+119)/120 }

// creates makes a volume: its ID.
func (b *bench) creates() int {
	b.Helper()
	id, e := b.v.Create(1000, api.MaxBlocks)
	b.is("Create", e, api.OK)
	return id
}

// snapshots makes a snapshot: its ID.
func (b *bench) snapshots(of int) int {
	b.Helper()
	id, e := b.v.Snapshot(of)
	b.is("Snapshot", e, api.OK)
	return id
}

// writes writes many blocks of a volume, one behind the other.
func (b *bench) writes(id, at, many int) {
	b.Helper()
	for i := range many {
		_, e := b.v.Write(id, at+i, bytes.Repeat([]byte{byte(id + at + i)}, 64), false)
		b.is("Write", e, api.OK)
	}
}

// unmaps unmaps blocks.
func (b *bench) unmaps(id, at, many int) {
	b.Helper()
	for i := range many {
		_, e := b.v.Unmap(id, at+i, 1)
		b.is("Unmap", e, api.OK)
	}
}

// deletes deletes volumes.
func (b *bench) deletes(ids ...int) {
	b.Helper()
	for _, id := range ids {
		b.is("Delete", b.v.Delete(id), api.OK)
	}
}

// sweeps has the collector do so many steps.
func (b *bench) sweeps(steps int) {
	b.Helper()
	for range steps {
		_, e := sweep.Step(b.v)
		b.is("Step", e, api.OK)
	}
}

// sweepsAll has it do all that there is.
func (b *bench) sweepsAll() {
	b.Helper()
	for range 16*b.pages + 16 {
		more, e := sweep.Step(b.v)
		b.is("Step", e, api.OK)
		if !more {
			return
		}
	}
	b.Fatal("there is still something to do")
}

// changes has the catalogue be changed by hand.
func (b *bench) changes(do func(c *api.Catalogue)) {
	b.Helper()
	c := b.v.Catalogue()
	do(&c)
	b.begins()
	b.is("Change", b.v.Change(c), api.OK)
}

// root is the root of the volume in a place.
func (b *bench) root(place int) int { return b.v.Catalogue().Volumes[place].Root }

// node is the node in a page.
func (b *bench) node(n int) api.Node {
	b.Helper()
	x, e := tree.Load(b.p, n)
	b.is("Load", e, api.OK)
	return x
}

// look looks: what it is answered is what the chapter tells of all that there is, too.
func (b *bench) look() check.Report {
	b.Helper()
	got, e := check.Look(b.v)
	b.is("Look", e, api.OK)
	if want := b.state(nil).report(); !same(got, want) {
		b.Fatalf("Look = %v, not %v", got, want)
	}
	return got
}

// finds asks what a Look tells.
func (b *bench) finds(want check.Report) {
	b.Helper()
	if got := b.look(); !same(got, want) {
		b.Fatalf("Look = %v, not %v", got, want)
	}
}

// counts asks how many pages a Look tells, where nothing is wrong or broken: those of live and of dying volumes; all others in use are the first ones.
func (b *bench) counts(live, dying int) {
	b.Helper()
	b.finds(check.Report{Used: live + dying + firstPages(b.pages), Live: live, Dying: dying})
}

// sound asks that nothing is wrong, broken or lost.
func (b *bench) sound() {
	b.Helper()
	x := b.look()
	if len(x.Wrong)+len(x.Broken) > 0 || x.Used != x.Live+x.Dying+firstPages(b.pages) {
		b.Fatalf("Look = %v", x)
	}
}

// same tells whether two reports are one.
func same(x, y check.Report) bool {
	return x.Used == y.Used && x.Live == y.Live && x.Dying == y.Dying && slices.Equal(x.Wrong, y.Wrong) && slices.Equal(x.Broken, y.Broken)
}

// TestNil: without volumes.
func TestNil(t *testing.T) {
	for _, v := range []*volumes.Volumes{nil, {}} { // such as nobody opened have no pool to be looked at
		if x, e := check.Look(v); !same(x, check.Report{}) || e != api.ErrArg {
			t.Errorf("Look = %v, %v", x, e)
		}
	}
}

// TestExample is the chapter's.
func TestExample(t *testing.T) {
	b := laid(t, 64)
	b.finds(check.Report{Used: 2})
	b.creates()
	b.finds(check.Report{Used: 2})
	b.writes(1, 7, 1)
	b.finds(check.Report{Used: 4, Live: 2})
	b.snapshots(1)
	b.finds(check.Report{Used: 4, Live: 2})
	b.deletes(1)
	b.finds(check.Report{Used: 4, Live: 2})
	b.deletes(2)
	b.finds(check.Report{Used: 4, Dying: 2})
	b.sweepsAll()
	b.finds(check.Report{Used: 2})
}

// TestNew: pools of any size have the catalogue and the counts.
func TestNew(t *testing.T) {
	for _, pages := range []int{16, 17, 119, 120, 121, 240, 241, 1023, 1024} {
		b := laid(t, pages)
		b.finds(check.Report{Used: 1 + (pages+119)/120})
		b.opens()
		b.counts(0, 0)
	}
}

// nodes are the nodes of a tree, by a page each.
func (b *bench) nodes(root int) []int {
	if root == 0 {
		return nil
	}
	l := []int{root}
	if x := b.node(root); !x.Leaf {
		for _, val := range x.Vals {
			l = append(l, b.nodes(val)...)
		}
	}
	return l
}

// TestVolumes: volumes of no block, of one, of many, by a tree of several levels; each page once.
func TestVolumes(t *testing.T) {
	for _, many := range []int{0, 1, 8, 9, 64, 70, 300} {
		b := laid(t, 600)
		b.creates()
		for i := range many {
			b.writes(1, 7*i%1000, 1)
		}
		live := many + len(b.nodes(b.root(0)))
		b.counts(live, 0)
		b.checkpoint()
		b.opens()
		b.counts(live, 0)
		b.unmaps(1, 0, 1)
		b.sound()
		b.deletes(1)
		if x := b.look(); x.Live != 0 || many > 1 && x.Dying == 0 {
			t.Errorf("%d blocks, deleted: Look = %v", many, x)
		}
		b.sound()
	}
}

// TestPlaces: all places have a volume; each is reached.
func TestPlaces(t *testing.T) {
	b := laid(t, 200)
	for place := range 8 {
		b.writes(b.creates(), 10*place, place)
	}
	b.counts(28+7, 0) // a leaf each, but for the first one
	for place := range 8 {
		b.deletes(place + 1)
		b.sound()
	}
	b.counts(0, 28+7)
}

// TestSnapshots: volumes that share all their nodes, some of them or none.
func TestSnapshots(t *testing.T) {
	b := laid(t, 600)
	b.creates()
	b.writes(1, 0, 60)
	all := 60 + len(b.nodes(b.root(0)))
	b.counts(all, 0)
	b.snapshots(1)
	b.snapshots(2)
	b.counts(all, 0)
	b.writes(2, 3, 1) // a leaf of its own, what is above it, and a block
	own := len(b.nodes(b.root(1)))
	apart := 0
	for _, n := range b.nodes(b.root(1)) {
		if !slices.Contains(b.nodes(b.root(0)), n) {
			apart++
		}
	}
	if apart == 0 || apart == own {
		t.Fatalf("%d of %d nodes are the snapshot's own", apart, own)
	}
	b.counts(all+apart+1, 0)
	b.deletes(1)
	b.counts(all+apart+1, 0) // the third one has all that it had
	b.deletes(3)
	b.counts(60+own, all+apart+1-60-own)
	for i := range 60 {
		b.writes(2, i, 1)
	}
	b.counts(60+own, all) // it has nothing of them any more
	b.sweepsAll()
	b.counts(60+own, 0)
}

// TestDying: volumes that are dying, with a root and without one, ahead of live ones and behind them; what live ones reach, too, is live.
func TestDying(t *testing.T) {
	b := laid(t, 200)
	b.creates()
	b.creates()
	b.creates()
	b.writes(2, 1, 5)
	b.snapshots(2)
	b.creates()
	b.writes(5, 1, 3)
	b.counts(6+4, 0)
	b.deletes(1)
	b.counts(10, 0)
	b.deletes(2)
	b.counts(10, 0)
	b.deletes(5)
	b.counts(6, 4)
	b.deletes(3)
	b.counts(6, 4)
	b.writes(4, 9, 1) // another leaf, which shares five blocks
	b.counts(7, 5)
	b.deletes(4)
	b.counts(0, 12)
}

// TestSteps: behind each step of the collector, with live volumes that share what is given back.
func TestSteps(t *testing.T) {
	b := laid(t, 400)
	b.creates()
	b.writes(1, 0, 70)
	b.snapshots(1)
	b.snapshots(1)
	b.writes(2, 10, 4)
	b.creates()
	b.writes(4, 0, 20)
	b.deletes(1, 2, 4)
	before := b.look()
	stacks := map[int]int{}
	for more := true; more; {
		b.sound()
		stacks[len(b.v.Catalogue().Stack)]++
		x := b.look()
		if x.Live != before.Live {
			t.Fatalf("Look = %v, which was %v", x, before)
		}
		var e api.Errno
		more, e = sweep.Step(b.v)
		b.is("Step", e, api.OK)
	}
	if len(stacks) < 3 {
		t.Errorf("there were stacks of %v", stacks)
	}
	b.counts(before.Live, 0)
}

// TestStackShared: nodes on the stack that a live volume reaches, too, are live; they are referred to by the stack as well.
func TestStackShared(t *testing.T) {
	b := laid(t, 200)
	b.creates()
	b.writes(1, 0, 30)
	all := 30 + len(b.nodes(b.root(0)))
	b.snapshots(1)
	b.deletes(2)
	b.sweeps(1)
	if c := b.v.Catalogue(); !slices.Equal(c.Stack, []int{b.root(0)}) {
		t.Fatalf("the catalogue is %v", c)
	}
	b.counts(all, 0)
	b.deletes(1)
	b.counts(0, all)
	b.sweepsAll()
	b.counts(0, 0)
}
