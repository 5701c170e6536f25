package sweep_test

import (
	"bytes"
	"slices"
	"testing"

	"polder/api"
	"polder/codec"
	"polder/crc"
	"polder/super"
	"polder/sweep"
)

// inUse is a pool with a live volume, and two dying ones: a snapshot of it, and one that shares nothing.
func inUse(t *testing.T) *bench {
	t.Helper()
	b := laid(t, 130)
	b.creates(40)
	b.writes(1, 0, 1, 33)
	b.creates(10)
	b.creates(30)
	b.writes(3, 4, 100, 10)
	b.snapshots(1)
	b.writes(4, 10, 70, 4)
	b.deletes(2, 3, 4)
	return b
}

// refused asks for a step that is refused: nothing has changed.
func (b *bench) refused(want api.Errno) {
	b.Helper()
	was := b.state()
	more, e := sweep.Step(b.v)
	if more || e != want {
		b.Fatalf("Step = %v, %v, not %v; of %v", more, e, want, was.catalogue)
	}
	b.stays(was)
}

// comesBack has the power go and come back: all is as it was.
func (b *bench) comesBack(was state, picks ...int) {
	b.Helper()
	b.d.Crash(picks)
	b.opens()
	b.stays(was)
	b.readsAll()
}

// somePicks are picks for crashes: nothing persists, the first that was written to each sector does, the last does.
func somePicks() [][]int {
	return [][]int{nil, slices.Repeat([]int{1}, 200), slices.Repeat([]int{-1}, 200)}
}

// TestBusy: within a transaction of somebody else's a step that has something to do is told to come again, and the transaction goes on.
func TestBusy(t *testing.T) {
	b := inUse(t)
	for more := true; more; {
		_, more = b.state().next()
		if !more {
			break
		}
		for _, whole := range []bool{false, true} {
			b.begins()
			n, e := b.p.Fresh(dataPage())
			b.is("Fresh", e, api.OK)
			b.quiet("Step within a transaction", func() {
				for range 2 {
					if more, e := sweep.Step(b.v); more || e != api.ErrBusy {
						t.Errorf("Step = %v, %v", more, e)
					}
				}
			})
			b.refused(api.ErrBusy)
			if b.p.Count(n) != 1 || !b.p.Under() {
				t.Fatal("the transaction was ended")
			}
			if !whole {
				b.p.Abort()
				continue
			}
			b.commits()
			b.held[n]++
			b.sound()
		}
		b.is("Begin", b.p.Store().Begin(), api.OK)
		b.is("Write", b.p.Store().Write(129, dataPage()), api.OK)
		b.refused(api.ErrBusy)
		b.is("Commit", b.p.Store().Commit(), api.OK)
		if x, e := b.p.Read(129); e != api.OK || !samePage(x, dataPage()) {
			t.Errorf("the page is %v, %v", x, e)
		}
		b.steps()
	}
	b.swept()
	b.readsAll()
}

// TestReadFails: each read of each step that the disk does not do is told, and nothing has changed, behind an Open neither.
func TestReadFails(t *testing.T) {
	b := inUse(t)
	most, all := 0, 0
	for more := true; more; {
		b.checkpoint()
		was := b.state()
		var want state
		want, more = was.next()
		for n := 1; ; n++ {
			b.is("Fail", b.d.Fail(api.FailRead, n), api.OK)
			got, e := sweep.Step(b.v)
			b.is("Fail", b.d.Fail(api.FailRead, never), api.OK)
			if e == api.OK {
				if got != more {
					t.Fatalf("Step = %v", got)
				}
				b.stays(want)
				break
			}
			if got || e != api.ErrRead {
				t.Fatalf("Step = %v, %v", got, e)
			}
			b.stays(was)
			if n == 1 {
				b.comesBack(was)
			}
			most, all = max(most, n), all+1
		}
	}
	if most != 1 || all < 10 { // a step looks at one node
		t.Errorf("%d reads in one step, %d in all", most, all)
	}
	b.swept()
	b.readsAll()
}

// fillsLog leaves the log no room, with dirty pages that a checkpoint has to bring home.
func (b *bench) fillsLog(logSize int) {
	b.Helper()
	b.writes(1, 7, 7, 1)
	for range (logSize - 1 - len(b.p.Dirty())) / 2 {
		b.changes(func(*api.Catalogue) {})
	}
}

// unwritten are ways in which a Commit is refused.
type unwritten struct {
	what  string
	want  api.Errno
	ready func(b *bench)
}

// fails has the disk fail once.
func fails(kind, n int) func(b *bench) {
	return func(b *bench) { b.is("Fail", b.d.Fail(kind, n), api.OK) }
}

// failsFull has it fail once while the log has no room, so that a checkpoint is done.
func failsFull(kind, n int) func(b *bench) {
	return func(b *bench) {
		b.checkpoint()
		b.fillsLog(200)
		b.syncs()
		fails(kind, n)(b)
	}
}

// cuts has the power of the disk go behind so many writes and flushes.
func cuts(n int) func(b *bench) {
	return func(b *bench) { b.is("Cut", b.d.Cut(n), api.OK) }
}

// allUnwritten are they; the disk writes anew behind each of them.
func allUnwritten() []unwritten {
	l := []unwritten{
		{"the disk does not write", api.ErrWrite, fails(api.FailWrite, 1)},
		{"the disk is cut", api.ErrWrite, cuts(0)},
		{"a checkpoint is cut", api.ErrWrite, func(b *bench) { failsFull(api.FailWrite, never)(b); cuts(4)(b) }},
	}
	for n := 1; n <= 2; n++ { // the log's flush, and that of the homes
		l = append(l, unwritten{"a checkpoint does not flush", api.ErrWrite, failsFull(api.FailFlush, n)})
	}
	for n := 1; n <= 6; n++ { // of the homes, the superblock and the record
		l = append(l, unwritten{"a checkpoint does not write", api.ErrWrite, failsFull(api.FailWrite, n)})
	}
	return l
}

// TestCommitRefused: each step whose transaction is refused changes nothing, behind an Open neither, whatever the disk keeps; and it is done later on.
func TestCommitRefused(t *testing.T) {
	for _, s := range allUnwritten() {
		for _, picks := range somePicks() {
			b := inUse(t)
			b.syncs()
			for i := 0; ; i++ {
				if _, more := b.state().next(); !more {
					break
				}
				if i%4 == 0 {
					s.ready(b)
					was := b.state()
					t.Logf("step %d, where %s", i, s.what)
					b.refused(s.want)
					b.is("Cut", b.d.Cut(never), api.OK)
					b.comesBack(was, picks...)
				}
				if i%8 == 0 { // and without an Open between
					s.ready(b)
					b.refused(s.want)
					b.is("Cut", b.d.Cut(never), api.OK)
				}
				b.steps()
				b.sound()
				b.syncs()
			}
			b.swept()
			b.readsAll()
		}
	}
}

// TestCommitRound: a record that goes round the log's end is two writes; without the second one nothing has changed, whatever persists of the first.
func TestCommitRound(t *testing.T) {
	for steps := range 8 {
		round := 0
		for shift := range 32 {
			for _, picks := range somePicks() {
				b := ready(t)
				for range steps {
					b.steps()
				}
				b.checkpoint()
				for range shift {
					b.changes(func(*api.Catalogue) {})
				}
				b.syncs()
				b.is("Fail", b.d.Fail(api.FailWrite, 2), api.OK)
				was := b.state()
				want, _ := was.next()
				if more, e := sweep.Step(b.v); more {
					b.is("Step", e, api.OK)
					b.stays(want)
					continue
				} else if e != api.ErrWrite {
					t.Fatalf("Step = %v, %v", more, e)
				}
				round++
				b.stays(was)
				b.comesBack(was, picks...)
				b.steps()
			}
		}
		if round == 0 {
			t.Errorf("behind %d steps no record went round", steps)
		}
	}
}

// TestCommitGoesOn: where the log has no room, a step makes some.
func TestCommitGoesOn(t *testing.T) {
	b := inUse(t)
	for more := true; more; {
		b.checkpoint()
		b.fillsLog(200)
		more = b.steps()
		b.sound()
	}
	b.swept()
	b.readsAll()
}

// TestNoCheckpoint: the log has no room, and no checkpoint is to be had any more.
func TestNoCheckpoint(t *testing.T) {
	for steps := range 6 {
		b := inUse(t)
		for range steps {
			b.steps()
		}
		b.checkpoint()
		x := b.p.Super()
		x.Gen, x.Epoch, x.Head, x.Seq = api.MaxNumber-1, x.Epoch+1, 0, 1
		b.is("Save", super.Save(b.d, crc.New(), x), api.OK)
		b.opens()
		b.fillsLog(200)
		b.refused(api.ErrFull)
		b.refused(api.ErrFull)
		b.readsAll()
	}
}

// spoils lays other bytes where a page lies, asks for a step, and lays back what was there.
func (b *bench) spoils(page int, other []byte, want api.Errno) {
	b.Helper()
	sector, _ := b.d.Read(2+page, 1)
	b.is("Write", b.d.Write(2+page, other, true), api.OK)
	more, e := sweep.Step(b.v)
	b.is("Write", b.d.Write(2+page, sector, true), api.OK)
	if more || e != want {
		b.Fatalf("Step = %v, %v, not %v", more, e, want)
	}
}

// TestSpoilt: a node that is not what was written is told, and nothing has changed.
func TestSpoilt(t *testing.T) {
	b := inUse(t)
	spoilt := 0
	for {
		b.checkpoint()
		was := b.state()
		stack := was.catalogue.Stack
		if last := len(stack) - 1; last >= 0 && was.counts[stack[last]] == 1 {
			n := stack[last]
			other, _ := b.d.Read(2+0, 1) // of another page
			data, e := codec.PutPage(crc.New(), api.Image{Number: n, Page: dataPage()})
			b.is("PutPage", e, api.OK)
			for _, s := range []struct {
				sector []byte
				want   api.Errno
			}{{bytes.Repeat([]byte{7}, 256), api.ErrSum}, {other, api.ErrSum}, {make([]byte, 256), api.ErrImage}, {data, api.ErrImage}} {
				b.spoils(n, s.sector, s.want)
				b.stays(was)
				b.comesBack(was)
				spoilt++
			}
		}
		if !b.steps() {
			break
		}
	}
	if spoilt < 20 {
		t.Errorf("%d were spoilt", spoilt)
	}
	b.swept()
}

// nodePage is a node's page.
func (b *bench) nodePage(x api.Node) api.Page {
	b.Helper()
	body, e := codec.PutNode(x)
	b.is("PutNode", e, api.OK)
	if x.Leaf {
		return api.Page{Kind: api.KindLeaf, Body: body}
	}
	return api.Page{Kind: api.KindInner, Body: body}
}

// leaf is the page of one whose keys rise from 0, with these Vals.
func (b *bench) leaf(vals ...int) api.Page {
	b.Helper()
	x := api.Node{Leaf: true, Vals: vals}
	for i := range vals {
		x.Keys = append(x.Keys, i)
	}
	return b.nodePage(x)
}

// TestStackRefused: stacks that Fell refuses, and one that becomes longer than may be; a dying volume has to wait.
func TestStackRefused(t *testing.T) {
	b := laid(t, 64)
	b.creates(10)
	b.writes(1, 0, 1, 3)
	b.creates(10)
	b.writes(2, 0, 1, 3)
	b.deletes(1)
	val := b.holds(dataPage())
	unused, fixed, twice := b.holds(b.leaf(val, 50)), b.holds(b.leaf(val, 1)), b.holds(b.leaf(val, val))
	wrong := b.leaf(val)
	wrong.Kind = api.KindInner
	wrongKind := b.holds(wrong)
	good := b.holds(b.leaf(val))
	inner := b.holds(b.nodePage(api.Node{Keys: []int{0, 5}, Vals: []int{good, good}}))
	free := b.holds(b.leaf(val))
	b.begins()
	b.is("Unref", b.p.Unref(free), api.OK) // what it was lies there still
	b.commits()
	for _, c := range []struct {
		stack []int
		want  api.Errno
	}{
		{[]int{0}, api.ErrImage},
		{[]int{1}, api.ErrImage},
		{[]int{63}, api.ErrImage},
		{[]int{64}, api.ErrRange},
		{[]int{1023}, api.ErrRange},
		{[]int{val}, api.ErrImage},
		{[]int{good, val}, api.ErrImage},
		{[]int{free}, api.ErrRange},
		{[]int{unused}, api.ErrRange},
		{[]int{good, fixed}, api.ErrRange},
		{[]int{twice}, api.ErrRange},
		{[]int{wrongKind}, api.ErrImage},
		{[]int{good, good, good, good, good, good, good, inner}, api.ErrArg},
	} {
		b.changes(func(x *api.Catalogue) { x.Stack = c.stack })
		b.syncs()
		was := b.state()
		for range 2 {
			b.refused(c.want)
			b.comesBack(was)
		}
	}
	for _, stack := range [][]int{{good, good, good, good, good, good, inner}, {0, 63, good}} {
		b.changes(func(x *api.Catalogue) { x.Stack = stack })
		b.steps()
	}
}

// TestRootRefused: a root that is none goes on the stack all the same, and is told by the next step.
func TestRootRefused(t *testing.T) {
	for _, c := range []struct {
		root int
		want api.Errno
	}{{1, api.ErrImage}, {40, api.ErrImage}, {64, api.ErrRange}, {1023, api.ErrRange}} {
		b := laid(t, 64)
		b.creates(10)
		b.creates(10)
		b.writes(2, 0, 1, 3)
		b.deletes(1)
		b.changes(func(x *api.Catalogue) { x.Volumes[0].Root = c.root })
		b.syncs()
		b.steps()
		b.stack(c.root)
		b.syncs()
		was := b.state()
		b.refused(c.want)
		b.comesBack(was)
		b.stack(c.root)
	}
}
