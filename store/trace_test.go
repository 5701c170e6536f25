package store_test

import (
	"bytes"
	"slices"
	"testing"

	"polder/api"
)

// op is a thing that is done to a disk: a Write, or, without data, a Flush.
type op struct {
	at   int
	data []byte
	fua  bool
}

func flush() op { return op{} }

func (o op) kind() int {
	if o.data == nil {
		return api.FailFlush
	}
	return api.FailWrite
}

// saved is the saving of a superblock.
func (b *bench) saved(x api.Super) op { return op{x.Gen % 2, b.superSector(x), true} }

// home is the writing of a page to its home.
func (b *bench) home(p int, fill byte) op { return op{2 + p, b.pageSector(p, page(fill)), false} }

// do does it.
func (b *bench) do(o op) {
	b.Helper()
	if o.data == nil {
		b.is("Flush", b.d.Flush(), api.OK)
		return
	}
	b.is("Write", b.d.Write(o.at, o.data, o.fua), api.OK)
}

// alike asks that two disks are: what is read, what is dirty, and what crashes with like picks leave.
func alike(t *testing.T, what string, one, other *bench) {
	t.Helper()
	if !bytes.Equal(one.all(), other.all()) || !slices.Equal(one.d.Dirty(), other.d.Dirty()) {
		t.Fatalf("%s: the disk is not as it has to be; dirty are %v, not %v", what, one.d.Dirty(), other.d.Dirty())
	}
}

// behindCrash asks so once more behind a crash.
func behindCrash(t *testing.T, what string, picks []int, one, other *bench) {
	t.Helper()
	one.d.Crash(picks)
	other.d.Crash(picks)
	alike(t, what+", crashed", one, other)
}

// somePicks are picks for crashes: nothing persists, all does, and some between.
func somePicks() [][]int {
	l := [][]int{nil, make([]int, 128), make([]int, 128), make([]int, 128)}
	for i := range 128 {
		l[1][i], l[2][i], l[3][i] = -1, i%2, 1
	}
	return l
}

// trace is a call, what it is to do to the disk, and how a flush that fails is told.
type trace struct {
	ready     func() *bench // ahead of the call
	call      func(b *bench) api.Errno
	ops       func(b *bench) []op
	reads     int // how many it asks for
	flushTold api.Errno
	refused   func(b *bench, done int) // what is to hold behind a call at whose op of this number the disk failed
}

// told is what the call is to answer, if the disk fails at an op.
func (c trace) told(o op) api.Errno {
	if o.kind() == api.FailWrite {
		return api.ErrWrite
	}
	return c.flushTold
}

// holds asks that the call does just these things, in this order, and nothing behind one that fails.
func (c trace) holds(t *testing.T) {
	t.Helper()
	whole := c.ready()
	ops := c.ops(whole)
	whole.asks("the call", api.FailRead, c.reads, func() { whole.is("the call", c.call(whole), api.OK) })
	twin := c.twin(t, ops)
	alike(t, "all was done", whole, twin)
	for done, o := range ops {
		for _, picks := range somePicks() {
			cut := c.ready()
			cut.is("Cut", cut.d.Cut(done), api.OK)
			cut.is("the call, cut", c.call(cut), c.told(o))
			twin := c.twin(t, ops[:done])
			alike(t, "cut", cut, twin)
			behindCrash(t, "cut", picks, cut, twin)
		}
		failed := c.ready()
		failed.is("Fail", failed.d.Fail(o.kind(), ordinal(ops, done)), api.OK)
		failed.is("the call, failed", c.call(failed), c.told(o))
		alike(t, "failed", failed, c.twin(t, ops[:done]))
		if c.refused != nil {
			c.refused(failed, done)
		}
		if t.Failed() {
			t.Fatalf("behind %d of %d", done, len(ops))
		}
	}
}

// twin is a bench as ahead of the call, on whose disk this is done.
func (c trace) twin(t *testing.T, ops []op) *bench {
	t.Helper()
	twin := c.ready()
	for _, o := range ops {
		twin.do(o)
	}
	return twin
}

// ordinal tells which of its kind an op is, from 1.
func ordinal(ops []op, at int) int {
	n := 0
	for _, o := range ops[:at+1] {
		if o.kind() == ops[at].kind() {
			n++
		}
	}
	return n
}
