package relog_test

import (
	"bytes"
	"slices"
	"testing"

	"polder/api"
)

// op is a thing that is done to a disk: a Write, or, without data, a Flush.
type op struct {
	at   int
	data []byte
	fua  bool
}

func flush() op { return op{} }

func (o op) kind() int {
	if o.data == nil {
		return api.FailFlush
	}
	return api.FailWrite
}

// told is how a Step tells of the op that the disk refused.
func (o op) told() api.Errno {
	if o.data == nil {
		return api.ErrFlush
	}
	return api.ErrWrite
}

// saved is the saving of a superblock.
func (b *bench) saved(x api.Super) op { return op{x.Gen % 2, b.superSector(x), true} }

// home is the writing of a page to its home.
func (b *bench) home(p int, fill byte) op { return op{2 + p, b.pageSector(p, page(fill)), false} }

// do does it.
func (b *bench) do(o op) {
	b.Helper()
	if o.data == nil {
		b.is("Flush", b.d.Flush(), api.OK)
		return
	}
	b.is("Write", b.d.Write(o.at, o.data, o.fua), api.OK)
}

// alike asks that two disks are: what is read, and what is dirty.
func alike(t *testing.T, what string, one, other *bench) {
	t.Helper()
	if !bytes.Equal(one.all(), other.all()) || !slices.Equal(one.d.Dirty(), other.d.Dirty()) {
		t.Fatalf("%s: the disk is not as it has to be; dirty are %v, not %v", what, one.d.Dirty(), other.d.Dirty())
	}
}

// somePicks are picks for crashes: nothing persists, all does, and some between.
func somePicks() [][]int {
	l := [][]int{nil, make([]int, 128), make([]int, 128), make([]int, 128)}
	for i := range 128 {
		l[1][i], l[2][i], l[3][i] = -1, i%2, 1
	}
	return l
}

// trace is a step, whether the move is done by it, and what it is to do to the disk.
type trace struct {
	ready   func() *bench // ahead of the step
	done    bool
	ops     func(b *bench) []op
	refused func(b *bench, at int) // what is to hold behind a step at whose op of this number the disk failed
}

// holds asks that the step does just these things, in this order, and nothing behind one that fails; that it tells of that; and that the move goes on.
func (c trace) holds(t *testing.T) {
	t.Helper()
	whole := c.ready()
	ops := c.ops(whole)
	whole.is("Fail", whole.d.Fail(api.FailRead, 1), api.OK)
	whole.steps(c.done, api.OK)
	if _, e := whole.d.Read(0, 1); e != api.ErrRead {
		t.Error("the step reads")
	}
	alike(t, "all was done", whole, c.twin(ops))
	for at, o := range ops {
		for _, picks := range somePicks() {
			cut := c.ready()
			cut.is("Cut", cut.d.Cut(at), api.OK)
			cut.steps(false, o.told())
			twin := c.twin(ops[:at])
			alike(t, "cut", cut, twin)
			cut.d.Crash(picks)
			twin.d.Crash(picks)
			alike(t, "cut, crashed", cut, twin)
		}
		failed := c.ready()
		failed.is("Fail", failed.d.Fail(o.kind(), ordinal(ops, at)), api.OK)
		failed.steps(false, o.told())
		failed.asks(18, 64, api.ErrBusy)
		alike(t, "failed", failed, c.twin(ops[:at]))
		c.refused(failed, at)
		if t.Failed() {
			t.Fatalf("behind %d of %d", at, len(ops))
		}
	}
}

// twin is a bench as ahead of the step, on whose disk this is done.
func (c trace) twin(ops []op) *bench {
	twin := c.ready()
	for _, o := range ops {
		twin.do(o)
	}
	return twin
}

// ordinal tells which of its kind an op is, from 1.
func ordinal(ops []op, at int) int {
	n := 0
	for _, o := range ops[:at+1] {
		if o.kind() == ops[at].kind() {
			n++
		}
	}
	return n
}
