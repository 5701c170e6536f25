package store_test

import (
	"testing"

	"polder/api"
)

// fullLog is a small store with a transaction under way, for whose 4 pages its log has no room: 4 sectors are left; dirty are 3 and 4.
func fullLog(t *testing.T) *bench {
	t.Helper()
	b := small(t)
	b.commits(4, 2)
	for range 29 {
		b.commits(3, 1)
	}
	b.is("Begin", b.s.Begin(), api.OK)
	for _, p := range []int{9, 3, 8, 5} {
		b.is("Write", b.s.Write(p, page(byte(p))), api.OK)
	}
	return b
}

// TestCommitFull: where the log is full there is a checkpoint in the Commit, and then the record goes behind the tail; whatever of it fails is told as ErrWrite at most, the transaction has not happened, and none is under way.
func TestCommitFull(t *testing.T) {
	next := first()
	next.Gen, next.Head, next.Seq = 4, 60, 31
	trace{
		ready:     func() *bench { return fullLog(t) },
		call:      func(b *bench) api.Errno { return b.s.Commit() },
		flushTold: api.ErrWrite,
		ops: func(b *bench) []op {
			record := b.record(2, 31, []int{3, 5, 8, 9}, page(3), page(5), page(8), page(9))
			return []op{flush(), b.home(3, 1), b.home(4, 2), flush(), b.saved(next), {18 + 60, record[:4*256], false}, {18, record[4*256:], false}}
		},
		refused: func(b *bench, done int) {
			b.idle()
			ahead, behind, dirty := first(), first(), []int{3, 4}
			if done >= 5 { // the checkpoint was done, but the log was refused
				ahead, behind, dirty = next, next, nil
				behind.Gen, behind.Seq = 5, 32
			}
			b.tells(ahead, dirty...)
			b.reads(3, page(1))
			b.reads(4, page(2))
			b.reads(5, never())
			b.commits(5, 7)
			b.tells(behind, append(dirty, 5)...)
			b.is("Sync", b.s.Sync(), api.OK)
			b.d.Crash(nil)
			b.opens()
			b.reads(3, page(1))
			b.reads(5, page(7))
		},
	}.holds(t)
	b := fullLog(t)
	b.is("Commit", b.s.Commit(), api.OK)
	b.tells(next, 3, 5, 8, 9)
	b.reads(3, page(3))
	b.reads(4, page(2))
	b.reads(9, page(9))
}

// TestCommitJustFits: a record that takes the log's last sector needs no checkpoint; one more page does.
func TestCommitJustFits(t *testing.T) {
	b := fullLog(t)
	b.s.Abort()
	b.commits(3, 1)
	b.asks("Commit", api.FailFlush, 0, func() { b.commits(3, 2) })
	b.tells(first(), 3, 4)
	b.asks("Commit", api.FailFlush, 2, func() { b.commits(3, 3) })
	x := first()
	x.Gen, x.Head, x.Seq = 4, 0, 33
	b.tells(x, 3)
}

// TestCommitBroken: behind an append that the disk refused the next Commit does a checkpoint, whether or not a page is dirty, and no number of a record is used again.
func TestCommitBroken(t *testing.T) {
	next := first()
	next.Gen, next.Head, next.Seq = 4, 0, 2
	trace{
		ready: func() *bench {
			b := refusedLog(t)
			b.writes(5, 6)
			return b
		},
		call:      func(b *bench) api.Errno { return b.s.Commit() },
		flushTold: api.ErrWrite,
		ops: func(b *bench) []op {
			return []op{flush(), flush(), b.saved(next), {18, b.record(2, 2, []int{5}, page(6)), false}}
		},
		refused: func(b *bench, done int) {
			b.idle()
			b.reads(5, never())
			b.commits(5, 8)
			b.reads(5, page(8))
		},
	}.holds(t)
	next.Head, next.Seq = 2, 3
	trace{
		ready: func() *bench {
			b := small(t)
			b.commits(3, 1)
			b.writes(4, 2)
			b.is("Fail", b.d.Fail(api.FailWrite, 1), api.OK)
			b.is("Commit", b.s.Commit(), api.ErrWrite)
			b.writes(5, 6)
			return b
		},
		call:      func(b *bench) api.Errno { return b.s.Commit() },
		flushTold: api.ErrWrite,
		ops: func(b *bench) []op {
			return []op{flush(), b.home(3, 1), flush(), b.saved(next), {18 + 2, b.record(2, 3, []int{5}, page(6)), false}}
		},
	}.holds(t)
}

// TestCommitNumbers: where the checkpoint can't be done, or no record may be written behind it, a Commit is ErrFull; the transaction has not happened, and nothing is asked of the disk.
func TestCommitNumbers(t *testing.T) {
	b := numbered(t, api.MaxNumber, 5)
	for range 32 {
		b.commits(3, 1)
	}
	was := b.s.Super()
	full := func(dirty ...int) {
		t.Helper()
		b.quiet("Commit", func() {
			b.writes(3, 2, 3)
			b.is("Commit", b.s.Commit(), api.ErrFull)
		})
		b.idle()
		b.tells(was, dirty...)
		b.reads(4, never())
	}
	full(3)
	b.reads(3, page(1))
	for _, epoch := range []int{1 << 32, api.MaxNumber} {
		b = numbered(t, 5, epoch)
		was = b.s.Super()
		full()
		b.is("Checkpoint", b.s.Checkpoint(), api.OK)
		b.tells(was)
	}
	b = numbered(t, 5, 1<<32-1)
	b.commits(3, 1)
	b.is("Checkpoint", b.s.Checkpoint(), api.OK)
	b.is("Switch", b.s.Switch(18, 64), api.OK)
	was = b.s.Super()
	full()
	b.reads(3, page(1))
}

// TestCommitMany: transactions of 40 pages; as two records take 82 of the log's 100 sectors, each other one of them needs a checkpoint.
func TestCommitMany(t *testing.T) {
	b := wide(t)
	gen := b.s.Super().Gen
	for i := range 20 {
		fills := make([]byte, 40)
		for j := range fills {
			fills[j] = byte(3*i + j)
		}
		b.commits(i, fills...)
		if got, want := b.s.Super().Gen, gen+i/2; got != want {
			t.Errorf("behind the transaction %d the Gen is %d, not %d", i, got, want)
		}
	}
	for p := range 59 {
		last := min(p, 19)
		b.reads(p, page(byte(3*last+p-last)))
	}
	b.reads(59, never())
}
