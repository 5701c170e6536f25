package store_test

import (
	"testing"

	"polder/api"
	"polder/super"
)

// refusedLog is a small store without a dirty page, whose log's append the disk refused.
func refusedLog(t *testing.T) *bench {
	t.Helper()
	b := small(t)
	b.writes(3, 1, 2)
	b.is("Fail", b.d.Fail(api.FailWrite, 1), api.OK)
	b.is("Commit", b.s.Commit(), api.ErrWrite)
	b.idle()
	b.tells(first())
	return b
}

// TestSync: it is a flush, and nothing else.
func TestSync(t *testing.T) {
	ready := func() *bench {
		b := small(t)
		b.commits(3, 1, 2)
		b.commits(3, 3)
		return b
	}
	trace{
		ready:     ready,
		call:      func(b *bench) api.Errno { return b.s.Sync() },
		flushTold: api.ErrFlush,
		ops:       func(b *bench) []op { return []op{flush()} },
		refused: func(b *bench, done int) {
			b.tells(first(), 3, 4)
			b.is("Sync", b.s.Sync(), api.OK)
			b.d.Crash(nil)
			b.opens()
			b.reads(3, page(3))
			b.reads(4, page(2))
		},
	}.holds(t)
	b := small(t)
	b.asks("Sync", api.FailFlush, 1, func() { b.is("Sync", b.s.Sync(), api.OK) })
	b.writes(3, 1)
	b.is("Fail", b.d.Fail(api.FailFlush, 1), api.OK)
	b.is("Sync", b.s.Sync(), api.ErrBusy)
	b.is("Commit", b.s.Commit(), api.OK)
	b.is("Sync", b.s.Sync(), api.ErrFlush)
	b.tells(first(), 3)
}

// TestCheckpoint: the log is made durable ahead of the first home, all homes ahead of the superblock; refused, the store is as it was.
func TestCheckpoint(t *testing.T) {
	next := first()
	next.Gen, next.Head, next.Seq = 4, 5, 3
	trace{
		ready: func() *bench {
			b := small(t)
			b.commits(9, 1, 2)
			b.commits(4, 3)
			return b
		},
		call:      func(b *bench) api.Errno { return b.s.Checkpoint() },
		flushTold: api.ErrFlush,
		ops: func(b *bench) []op {
			return []op{flush(), b.home(4, 3), b.home(9, 1), b.home(10, 2), flush(), b.saved(next)}
		},
		refused: func(b *bench, done int) {
			b.tells(first(), 4, 9, 10)
			b.quiet("Read of what is dirty", func() {
				b.reads(4, page(3))
				b.reads(9, page(1))
				b.reads(10, page(2))
			})
			b.commits(9, 4)
			b.tells(first(), 4, 9, 10)
			b.is("Checkpoint", b.s.Checkpoint(), api.OK)
			behind := next
			behind.Head, behind.Seq = 7, 4
			b.tells(behind)
			b.d.Crash(nil)
			b.opens()
			b.reads(4, page(3))
			b.reads(9, page(4))
		},
	}.holds(t)
}

// TestCheckpointNothing: without a dirty page, and with room in the log, nothing is done.
func TestCheckpointNothing(t *testing.T) {
	b := small(t)
	quiet := func(x api.Super) {
		t.Helper()
		b.quiet("Checkpoint", func() {
			b.is("Checkpoint", b.s.Checkpoint(), api.OK)
			b.is("Checkpoint", b.s.Checkpoint(), api.OK)
		})
		b.tells(x)
	}
	quiet(first())
	b.commits(3, 1)
	b.is("Checkpoint", b.s.Checkpoint(), api.OK)
	next := first()
	next.Gen, next.Head, next.Seq = 4, 2, 2
	quiet(next)
	b.is("Switch", b.s.Switch(19, 65), api.OK)
	quiet(api.Super{Gen: 5, Epoch: 3, Pages: 16, Start: 19, Len: 65, Head: 0, Seq: 1})
}

// TestCheckpointFull: a log that is just full, and the page that is dirty in it.
func TestCheckpointFull(t *testing.T) {
	b := small(t)
	for range 32 {
		b.commits(3, 1)
	}
	b.tells(first(), 3)
	b.is("Checkpoint", b.s.Checkpoint(), api.OK)
	next := first()
	next.Gen, next.Head, next.Seq = 4, 0, 33
	b.tells(next)
	b.asks("Commit", api.FailWrite, 1, func() { b.commits(3, 2) })
}

// TestCheckpointRefusedLog: without a dirty page, but with a log that the disk refused, it is done: the log's records begin behind the number that was lost.
func TestCheckpointRefusedLog(t *testing.T) {
	next := first()
	next.Gen, next.Head, next.Seq = 4, 0, 2
	trace{
		ready:     func() *bench { return refusedLog(t) },
		call:      func(b *bench) api.Errno { return b.s.Checkpoint() },
		flushTold: api.ErrFlush,
		ops:       func(b *bench) []op { return []op{flush(), flush(), b.saved(next)} },
		refused:   func(b *bench, done int) { b.tells(first()) },
	}.holds(t)
	b := refusedLog(t)
	b.is("Checkpoint", b.s.Checkpoint(), api.OK)
	b.quiet("Checkpoint", func() { b.is("Checkpoint", b.s.Checkpoint(), api.OK) })
	b.asks("Commit", api.FailWrite, 1, func() { b.commits(3, 1) })
	b.is("Sync", b.s.Sync(), api.OK)
	b.d.Crash(nil)
	b.opens()
	b.reads(3, page(1))
}

// numbered is a small store whose superblock has this Gen and Epoch.
func numbered(t *testing.T, gen, epoch int) *bench {
	t.Helper()
	b := small(t)
	x := first()
	x.Gen, x.Epoch = gen-1, epoch-1
	b.is("Save", super.Save(b.d, b.table, x), api.OK)
	b.opens()
	x.Gen, x.Epoch = gen, epoch
	b.tells(x)
	return b
}

// TestCheckpointNumbers: with a Gen at its end there is none any more, but where there is nothing to do; with one less there is.
func TestCheckpointNumbers(t *testing.T) {
	b := numbered(t, api.MaxNumber, 5)
	was := b.s.Super()
	b.is("Checkpoint", b.s.Checkpoint(), api.OK)
	b.commits(3, 1)
	b.quiet("Checkpoint", func() { b.is("Checkpoint", b.s.Checkpoint(), api.ErrFull) })
	b.tells(was, 3)
	b.is("Begin", b.s.Begin(), api.OK)
	b.is("Checkpoint", b.s.Checkpoint(), api.ErrBusy)
	b.s.Abort()
	b.commits(4, 2)
	b.reads(3, page(1))

	b = numbered(t, api.MaxNumber-1, 5)
	b.commits(3, 1)
	b.is("Checkpoint", b.s.Checkpoint(), api.OK)
	was.Head, was.Seq = 2, 2
	b.tells(was)
	b.is("Checkpoint", b.s.Checkpoint(), api.OK)
	b.writes(3, 2)
	b.is("Fail", b.d.Fail(api.FailWrite, 1), api.OK)
	b.is("Commit", b.s.Commit(), api.ErrWrite)
	b.quiet("Checkpoint", func() { b.is("Checkpoint", b.s.Checkpoint(), api.ErrFull) })
	b.tells(was)
}

// TestSwitch: it is one superblock, and the log is empty there; refused, the store is as it was.
func TestSwitch(t *testing.T) {
	next := api.Super{Gen: 5, Epoch: 3, Pages: 16, Start: 30, Len: 98, Head: 0, Seq: 1}
	was := first()
	was.Gen, was.Head, was.Seq = 4, 3, 2
	trace{
		ready: func() *bench {
			b := small(t)
			b.commits(3, 1, 2)
			b.is("Checkpoint", b.s.Checkpoint(), api.OK)
			return b
		},
		call: func(b *bench) api.Errno { return b.s.Switch(30, 98) },
		ops:  func(b *bench) []op { return []op{b.saved(next)} },
		refused: func(b *bench, done int) {
			b.tells(was)
			twin := b.all()
			copy(twin[(18+3)*256:], b.record(2, 2, []int{9}, page(9)))
			b.commits(9, 9)
			if string(b.all()) != string(twin) {
				t.Error("behind a refused Switch the log is not where it was")
			}
		},
	}.holds(t)
}

// TestSwitchDone: the log is there, and empty, and pages are as they were; also behind a crash.
func TestSwitchDone(t *testing.T) {
	b := small(t)
	b.commits(3, 1, 2)
	b.is("Checkpoint", b.s.Checkpoint(), api.OK)
	b.asks("Switch", api.FailFlush, 0, func() { b.is("Switch", b.s.Switch(30, 98), api.OK) })
	next := api.Super{Gen: 5, Epoch: 3, Pages: 16, Start: 30, Len: 98, Head: 0, Seq: 1}
	b.tells(next)
	twin := b.all()
	copy(twin[30*256:], b.record(3, 1, []int{4, 5}, page(9), page(8)))
	b.commits(4, 9, 8)
	if string(b.all()) != string(twin) {
		t.Error("the log does not begin where it was asked to")
	}
	b.is("Sync", b.s.Sync(), api.OK)
	b.d.Crash(nil)
	b.opens()
	b.reads(3, page(1))
	b.reads(4, page(9))
	b.reads(5, page(8))
	b.is("Checkpoint", b.s.Checkpoint(), api.OK)
	b.is("Switch", b.s.Switch(30, 98), api.OK)
	b.is("Switch", b.s.Switch(18, 64), api.OK)
	b.d.Crash(nil)
	b.opens()
	b.reads(3, page(1))
	b.reads(4, page(9))
}

// TestSwitchRefusedLog: a log that the disk refused is left behind, too.
func TestSwitchRefusedLog(t *testing.T) {
	b := refusedLog(t)
	b.is("Switch", b.s.Switch(18, 64), api.OK)
	next := first()
	next.Gen, next.Epoch = 4, 3
	b.tells(next)
	b.asks("Commit", api.FailWrite, 1, func() { b.commits(3, 1) })
	b.tells(next, 3)
}

// TestSwitchRefused: with a dirty page it is refused, and then to places that may not be, and where Gen or Epoch are at their end; nothing is done.
func TestSwitchRefused(t *testing.T) {
	b := small(t)
	const most = 1<<63 - 1
	places := [][2]int{
		{17, 64}, {18, 63}, {65, 64}, {18, 111}, {0, 64}, {-1, 64}, {18, 0}, {18, -1}, {128, 64}, {most, 64}, {18, most}, {most, most}, {-most, most}, {1 << 40, 1 << 40},
	}
	refused := func(want api.Errno) {
		t.Helper()
		was, dirty := b.s.Super(), b.s.Dirty()
		b.quiet("Switch", func() {
			for _, c := range places {
				b.is("Switch", b.s.Switch(c[0], c[1]), want)
			}
		})
		b.tells(was, dirty...)
	}
	refused(api.ErrArg)
	b.commits(3, 1)
	refused(api.ErrBusy)
	b.quiet("Switch", func() { b.is("Switch", b.s.Switch(18, 64), api.ErrBusy) })
	b.is("Checkpoint", b.s.Checkpoint(), api.OK)
	refused(api.ErrArg)
	for _, c := range [][2]int{{64, 64}, {18, 110}, {18, 64}} {
		b.is("Switch", b.s.Switch(c[0], c[1]), api.OK)
	}
	places = [][2]int{{18, 64}, {64, 64}}
	b = numbered(t, api.MaxNumber, 5)
	refused(api.ErrArg)
	b = numbered(t, 5, api.MaxNumber)
	refused(api.ErrArg)
	b = numbered(t, api.MaxNumber-1, api.MaxNumber-1)
	b.is("Switch", b.s.Switch(64, 64), api.OK)
	b.tells(api.Super{Gen: api.MaxNumber, Epoch: api.MaxNumber, Pages: 16, Start: 64, Len: 64, Head: 0, Seq: 1})
	refused(api.ErrArg)
}

// TestTold: what Super and Dirty tell is asked of nothing.
func TestTold(t *testing.T) {
	b := small(t)
	b.commits(3, 1)
	b.quiet("Super and Dirty", func() { b.tells(first(), 3) })
	b.writes(5, 1)
	b.tells(first(), 3)
}
