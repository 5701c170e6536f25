package relog_test

import (
	"testing"

	"polder/api"
)

// moving is a store with three dirty pages, whose log is on its way to 64.
func moving(t *testing.T) *bench {
	t.Helper()
	b := small(t)
	b.commits(9, 1, 2)
	b.commits(4, 3)
	b.asks(64, 64, api.OK)
	return b
}

// clean is the superblock of that store behind its checkpoint.
func clean() api.Super {
	x := first()
	x.Gen, x.Head, x.Seq = 4, 5, 3
	return x
}

// goesOn asks that a store's next steps, and nothing else, bring the log to 64: as many as this, and each but the last a checkpoint.
func (b *bench) goesOn(steps int, x api.Super) {
	b.Helper()
	for range steps - 1 {
		b.steps(false, api.OK)
	}
	b.tells(x)
	b.steps(true, api.OK)
	b.tells(changed(x, 64, 64))
}

// keeps asks for the pages of that store, now and behind a crash of which nothing persists.
func (b *bench) keeps() {
	b.Helper()
	for range 2 {
		b.reads(4, page(3))
		b.reads(9, page(1))
		b.reads(10, page(2))
		b.reads(3, api.Page{})
		b.d.Crash(nil)
		b.opens()
	}
}

// TestStepIdle: without a move there is no step, whatever the store has under way.
func TestStepIdle(t *testing.T) {
	b := small(t)
	idle := func() {
		t.Helper()
		b.quiet("Step", func() { b.steps(false, api.ErrIdle) })
	}
	idle()
	b.writes(3, 1)
	idle()
	b.is("Commit", b.s.Commit(), api.OK)
	idle()
	b.writes(4, 2)
	idle()
	b.is("Commit", b.s.Commit(), api.OK)
	b.asks(64, 64, api.OK)
	b.steps(false, api.OK)
	b.steps(true, api.OK)
	idle()
	b.reads(3, page(1))
	b.reads(4, page(2))
}

// TestStepCheckpoint: with dirty pages it is a checkpoint, and its error; then the next one begins it anew.
func TestStepCheckpoint(t *testing.T) {
	trace{
		ready: func() *bench { return moving(t) },
		ops: func(b *bench) []op {
			return []op{flush(), b.home(4, 3), b.home(9, 1), b.home(10, 2), flush(), b.saved(clean())}
		},
		refused: func(b *bench, at int) {
			b.tells(first(), 4, 9, 10)
			b.goesOn(2, clean())
			b.keeps()
		},
	}.holds(t)
}

// TestStepSwitch: without a dirty page it is the switch, and its error; then the next one is the switch again.
func TestStepSwitch(t *testing.T) {
	trace{
		ready: func() *bench {
			b := moving(t)
			b.steps(false, api.OK)
			return b
		},
		done: true,
		ops:  func(b *bench) []op { return []op{b.saved(changed(clean(), 64, 64))} },
		refused: func(b *bench, at int) {
			b.tells(clean())
			b.goesOn(1, clean())
			b.keeps()
		},
	}.holds(t)
}

// TestStepRefusedOften: a move goes on, however often the disk refuses.
func TestStepRefusedOften(t *testing.T) {
	b := moving(t)
	b.is("Cut", b.d.Cut(0), api.OK)
	for range 20 {
		b.steps(false, api.ErrFlush)
	}
	b.tells(first(), 4, 9, 10)
	b.is("Cut", b.d.Cut(6), api.OK)
	b.steps(false, api.OK)
	for range 20 {
		b.steps(false, api.ErrWrite)
	}
	b.tells(clean())
	b.is("Cut", b.d.Cut(100), api.OK)
	b.goesOn(1, clean())
}

// TestStepTransaction: while a transaction is under way no step is done, with dirty pages and without, wherever the log is to go; both go on.
func TestStepTransaction(t *testing.T) {
	b := moving(t)
	refused := func() {
		t.Helper()
		b.quiet("Step", func() {
			b.steps(false, api.ErrBusy)
			b.steps(false, api.ErrBusy)
		})
	}
	b.writes(5, 7)
	refused()
	b.is("Commit", b.s.Commit(), api.OK)
	b.tells(first(), 4, 5, 9, 10)
	b.steps(false, api.OK)
	b.writes(6, 8)
	refused()
	b.s.Abort()
	b.writes(7)
	refused()
	b.is("Commit", b.s.Commit(), api.OK)
	x := clean()
	x.Head, x.Seq = 7, 4
	b.goesOn(1, x)
	b.reads(5, page(7))
	b.reads(6, api.Page{})
	b.has(200)
	b.asks(100, 64, api.OK) // beyond the disk's end
	b.writes(6, 8)
	refused()
	b.s.Abort()
	b.steps(false, api.ErrArg)
}

// TestSecondStep: without a commit beside it a move is done by its first step, if no page was dirty, and else by its second one.
func TestSecondStep(t *testing.T) {
	for dirty := range 17 {
		b := small(t)
		for p := range dirty {
			b.commits(p, byte(1+p))
		}
		b.asks(40, 80, api.OK)
		if dirty > 0 {
			b.steps(false, api.OK)
		}
		b.is("Sync", b.s.Sync(), api.OK)
		x := b.s.Super()
		b.steps(true, api.OK)
		b.tells(changed(x, 40, 80))
		for p := range dirty {
			b.reads(p, page(byte(1+p)))
		}
	}
}

// TestCommitsBeside: who commits between two steps has the next one be a checkpoint once more; the log goes when nobody does.
func TestCommitsBeside(t *testing.T) {
	b := ready(t)
	b.asks(64, 64, api.OK)
	x := first()
	for i := range 10 {
		b.steps(false, api.OK)
		x.Gen, x.Head, x.Seq = 4+i, 2+2*i, 2+i
		b.tells(x)
		b.commits(4+i%3, byte(10+i))
		b.tells(x, 4+i%3)
	}
	b.is("Checkpoint", b.s.Checkpoint(), api.OK)
	x.Gen, x.Head, x.Seq = 14, 22, 12
	b.goesOn(1, x)
	for p, fill := range []byte{19, 17, 18} {
		b.reads(4+p, page(fill))
	}
}

// TestRefusedLog: a log that the disk refused, and that has no dirty page, is left at once; a refused one that has is so behind its checkpoint.
func TestRefusedLog(t *testing.T) {
	refuse := func(b *bench) {
		b.writes(5, 9)
		b.is("Fail", b.d.Fail(api.FailWrite, 1), api.OK)
		b.is("Commit", b.s.Commit(), api.ErrWrite)
	}
	b := small(t)
	refuse(b)
	b.asks(64, 64, api.OK)
	b.goesOn(1, first())
	b = moving(t)
	refuse(b)
	x := clean()
	x.Seq = 4
	b.goesOn(2, x)
	b.commits(5, 8)
	b.is("Sync", b.s.Sync(), api.OK)
	b.d.Crash(nil)
	b.opens()
	b.reads(5, page(8))
	b.reads(9, page(1))
}

// TestStepNumbers: a move that was asked for with the last Gen loses it to its checkpoint: the Switch refuses then, each time.
func TestStepNumbers(t *testing.T) {
	b := numbered(t, api.MaxNumber-1, 5)
	b.commits(3, 1)
	b.asks(64, 64, api.OK)
	b.steps(false, api.OK)
	b.quiet("Step", func() {
		b.steps(false, api.ErrArg)
		b.steps(false, api.ErrArg)
	})
	b.commits(3, 2)
	b.quiet("Step", func() {
		b.steps(false, api.ErrFull)
		b.steps(false, api.ErrFull)
	})
	b.reads(3, page(2))
	b.m.Cancel()
	b.steps(false, api.ErrIdle)
	b.asks(64, 64, api.ErrArg)
}

// TestGrownAndShrunk: a longer log takes what a shorter one had no room for, and the other way round, whichever way the places overlap.
func TestGrownAndShrunk(t *testing.T) {
	b := small(t)
	for i, c := range [][2]int{{18, 110}, {18, 64}, {30, 98}, {64, 64}, {20, 64}, {21, 64}, {18, 64}} {
		b.asks(c[0], c[1], api.OK)
		for done := false; !done; {
			done, _ = b.m.Step()
		}
		x := b.s.Super()
		for range c[1] / 2 {
			b.commits(i, byte(1+i))
		}
		b.tells(x, i)
		b.commits(i, byte(2+i))
		if b.s.Super() == x {
			t.Errorf("a log of %d sectors takes more than there is room for", c[1])
		}
	}
	b.is("Sync", b.s.Sync(), api.OK)
	b.d.Crash(nil)
	b.opens()
	for i := range 7 {
		b.reads(i, page(byte(2+i)))
	}
}
