package relog_test

import (
	"math/rand/v2"
	"testing"

	"polder/api"
	"polder/super"
)

// chapter is a mover told once more, of a store of its own to which the same happens.
type chapter struct {
	*bench
	sectors int
	under   bool
	to      place
}

func (c *chapter) ask(start, length int) api.Errno {
	if c.under {
		return api.ErrBusy
	}
	x := c.s.Super()
	if super.Check(api.Super{Gen: x.Gen + 1, Epoch: x.Epoch + 1, Pages: x.Pages, Start: start, Len: length, Seq: 1}, c.sectors) != api.OK {
		return api.ErrArg
	}
	c.under, c.to = true, place{start, length}
	return api.OK
}

func (c *chapter) step() (bool, api.Errno) {
	switch {
	case !c.under:
		return false, api.ErrIdle
	case len(c.s.Dirty()) > 0:
		return false, c.s.Checkpoint()
	}
	e := c.s.Switch(c.to[0], c.to[1])
	c.under = e != api.OK
	return !c.under, e
}

// pair is a store and its mover, and the chapter.
type pair struct {
	*bench
	c      *chapter
	random *rand.Rand
}

// opened opens both, and has movers for a disk of any number of sectors about the disk's.
func (w *pair) opened() {
	w.Helper()
	w.opens()
	w.c.opens()
	w.c.sectors, w.c.under = 120+w.random.IntN(20), false
	w.has(w.c.sectors)
}

// step has one call asked of both.
func (w *pair) step() {
	w.Helper()
	switch p, x := w.random.IntN(16), page(byte(w.random.Uint32())); w.random.IntN(18) {
	case 0, 1, 2:
		start, length := 16+w.random.IntN(60), 62+w.random.IntN(60)
		w.is("Ask", w.m.Ask(start, length), w.c.ask(start, length))
	case 3, 4, 5, 6:
		done, e := w.m.Step()
		wanted, f := w.c.step()
		if w.is("Step", e, f); done != wanted {
			w.Errorf("Step = %v", done)
		}
	case 7:
		if w.random.IntN(3) == 0 {
			w.m.Cancel()
			w.c.under = false
		}
	case 8:
		kind, n := 1+w.random.IntN(3), 1+w.random.IntN(10)
		w.is("Fail", w.d.Fail(kind, n), w.c.d.Fail(kind, n))
	case 9:
		w.is("Sync", w.s.Sync(), w.c.s.Sync())
	case 10:
		if w.random.IntN(8) == 0 {
			w.goes()
		}
	case 11:
		w.is("Checkpoint", w.s.Checkpoint(), w.c.s.Checkpoint())
	case 12, 13:
		w.is("Begin", w.s.Begin(), w.c.s.Begin())
	case 14, 15:
		w.is("Commit", w.s.Commit(), w.c.s.Commit())
	default:
		w.is("Write", w.s.Write(p, x), w.c.s.Write(p, x))
	}
}

// goes has the power go, within what comes next, and opens both.
func (w *pair) goes() {
	w.Helper()
	n := w.random.IntN(12)
	w.is("Cut", w.d.Cut(n), w.c.d.Cut(n))
	for range 3 {
		done, e := w.m.Step()
		wanted, f := w.c.step()
		if w.is("Step", e, f); done != wanted {
			w.Errorf("Step, cut, = %v", done)
		}
	}
	picks := randomPicks(w.random)
	w.d.Crash(picks)
	w.c.d.Crash(picks)
	w.opened()
}

// TestChapter: calls in any order, with errors and crashes of the disk among them, answer what the chapter has, and leave the store and the disk so.
func TestChapter(t *testing.T) {
	for seed := range uint64(100) {
		w := pair{bench: small(t), c: &chapter{bench: small(t)}, random: rand.New(rand.NewPCG(seed, 70))}
		w.opened()
		for range 300 {
			w.step()
			w.busy(w.c.under)
			w.tells(w.c.s.Super(), w.c.s.Dirty()...)
			if t.Failed() {
				t.Fatalf("seed %d", seed)
			}
		}
		for _, b := range []*bench{w.bench, w.c.bench} {
			b.d.Fail(api.FailRead, api.MaxNumber)
		}
		alike(t, "at last", w.bench, w.c.bench)
	}
}
