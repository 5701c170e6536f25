package check_test

import (
	"slices"
	"testing"

	"polder/api"
	"polder/check"
)

// mixed is a pool with live and dying volumes, nodes on the stack, wrong counts and broken nodes.
func mixed(t *testing.T) *bench {
	t.Helper()
	b := tall(t)
	b.creates()
	b.writes(3, 0, 20)
	b.deletes(1, 3)
	b.sweeps(3)
	b.refs(b.hand(data()), 1)
	b.hand(data())
	nodes := b.nodes(b.root(1))
	b.over(nodes[2], data())
	b.over(nodes[4], data())
	if x := b.look(); len(x.Wrong) < 2 || len(x.Broken) != 2 || x.Live == 0 || x.Dying == 0 {
		t.Fatalf("Look = %v", x)
	}
	return b
}

// TestQuiet: a look changes nothing, and asks the disk for reads alone.
func TestQuiet(t *testing.T) {
	b := mixed(t)
	for _, clean := range []bool{false, true} {
		if clean {
			b.checkpoint()
		}
		was, want := b.state(nil), b.look()
		b.is("Fail", b.d.Fail(api.FailWrite, 1), api.OK)
		b.is("Fail", b.d.Fail(api.FailFlush, 1), api.OK)
		for range 3 {
			b.finds(want)
		}
		if e := b.d.Write(0, make([]byte, 256), false); e != api.ErrWrite {
			t.Error("the disk was written")
		}
		if e := b.d.Flush(); e != api.ErrFlush {
			t.Error("the disk was flushed")
		}
		b.stays(was)
	}
	was, want := b.state(nil), b.look()
	b.syncs()
	b.d.Crash(nil)
	b.opens()
	b.finds(want)
	now := b.state(nil)
	if was.dirty = now.dirty; now.under {
		t.Error("a transaction is under way")
	}
	b.stays(was)
}

// TestUnder: a look within a transaction tells what the transaction has, and leaves it as it is.
func TestUnder(t *testing.T) {
	b := tall(t)
	before, whole := b.look(), b.state(nil)
	for _, commit := range []bool{false, true} {
		b.begins()
		n := b.fresh(data())
		b.is("Ref", b.p.Ref(b.root(0)), api.OK)
		b.is("Write", b.p.Write(b.root(1), data()), api.OK)
		was, got := b.state(nil), b.look()
		if !slices.Contains(got.Wrong, n) || !slices.Contains(got.Wrong, b.root(0)) || !slices.Equal(got.Broken, []int{b.root(1)}) || got.Used != before.Used+1 {
			t.Errorf("Look = %v", got)
		}
		b.stays(was)
		if !b.p.Under() {
			t.Fatal("the transaction was ended")
		}
		if commit {
			b.commits()
			b.finds(got)
			continue
		}
		b.p.Abort()
		b.stays(whole)
		b.finds(before)
	}
	was := b.look()
	b.is("Begin", b.p.Store().Begin(), api.OK) // one of the store's, of which the pool knows nothing
	b.finds(was)
	b.is("Write", b.p.Store().Write(b.root(0), data()), api.OK)
	if got := b.look(); !slices.Contains(got.Broken, b.root(0)) {
		t.Errorf("Look = %v", got)
	}
	b.is("Commit", b.p.Store().Commit(), api.OK)
}

// TestMemory: what is answered is the caller's own, its spare room too.
func TestMemory(t *testing.T) {
	b := mixed(t)
	was := b.state(nil)
	first := b.look()
	want := check.Report{Used: first.Used, Live: first.Live, Dying: first.Dying, Wrong: slices.Clone(first.Wrong), Broken: slices.Clone(first.Broken)}
	second := b.look()
	for _, l := range [][]int{first.Wrong, first.Broken} {
		l = l[:cap(l)]
		for i := range l {
			l[i] = 3
		}
	}
	if !same(second, want) {
		t.Errorf("%v, which was %v", second, want)
	}
	for _, l := range [][]int{second.Wrong, second.Broken} {
		l = l[len(l):cap(l)]
		for i := range l {
			l[i] = 3
		}
	}
	if !same(second, want) {
		t.Errorf("%v, which was %v", second, want)
	}
	b.finds(want)
	b.stays(was)
}
