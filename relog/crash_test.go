package relog_test

import (
	"math/rand/v2"
	"testing"

	"polder/api"
	"polder/store"
)

// pages are all pages of a small store, told by their kinds and the byte that each is full of.
type pages [16][2]int

// place is where a log stands: its start, and how long it is.
type place [2]int

// writer is a store that is used in a test while its log moves, and what is known of it.
type writer struct {
	*bench
	states  []pages // behind 0, 1, .. of the transactions that were done
	lasting int     // how many of them are to last
	filled  byte    // what the last page was full of
	was     place   // where the log is
	to      place   // and where it was asked to last
}

// user is a small store as it is used.
func user(t *testing.T) *writer {
	t.Helper()
	return &writer{bench: small(t), states: make([]pages, 1), was: place{18, 64}, to: place{18, 64}}
}

// commit asks for a transaction that writes some pages, each with what no other one has.
func (w *writer) commit(numbers ...int) {
	w.Helper()
	w.is("Begin", w.s.Begin(), api.OK)
	now := w.states[len(w.states)-1]
	for _, p := range numbers {
		w.filled++
		x := page(w.filled)
		now[p] = [2]int{x.Kind, int(w.filled)}
		w.is("Write", w.s.Write(p, x), api.OK)
	}
	if w.s.Commit() == api.OK {
		w.states = append(w.states, now)
	}
}

// lasts takes what is answered by a call behind which all transactions are to last.
func (w *writer) lasts(e api.Errno) {
	if e == api.OK {
		w.lasting = len(w.states) - 1
	}
}

// ask asks for a move, that may be asked for if none is under way.
func (w *writer) ask(start, length int) {
	w.Helper()
	if w.m.Busy() {
		w.asks(start, length, api.ErrBusy)
		return
	}
	w.asks(start, length, api.OK)
	w.to = place{start, length}
}

// step does one, that changes no page; without an error all is to last behind it, and the log is where it was, or, if the move is done, where it was to go.
func (w *writer) step() {
	w.Helper()
	ahead, busy, free := w.now(), w.m.Busy(), len(w.s.Dirty()) == 0
	done, e := w.m.Step()
	w.lasts(e)
	if w.now() != ahead {
		w.Fatal("a step changes a page")
	}
	if done != (e == api.OK && free) || !busy && e != api.ErrIdle {
		w.Fatalf("Step = %v, %v; a move was under way: %v, no page was dirty: %v", done, e, busy, free)
	}
	w.busy(busy && !done)
	if done {
		w.was = w.to
	}
	if x := w.s.Super(); x.Start != w.was[0] || x.Len != w.was[1] {
		w.Fatalf("the log is at %d, %d long, not at %v", x.Start, x.Len, w.was)
	}
}

// now is what the pages are.
func (w *writer) now() pages {
	w.Helper()
	var now pages
	for p := range now {
		x, e := w.s.Read(p)
		w.is("Read", e, api.OK)
		if x.Kind == api.KindNone {
			continue
		}
		if !same(x, page(x.Body[0])) {
			w.Fatalf("page %d is none that was written", p)
		}
		now[p] = [2]int{x.Kind, int(x.Body[0])}
	}
	return now
}

// stands asks, behind a crash, that the pages are those behind some number of the transactions, those that are to last among them, and that the log is where it was, or where it was asked to.
func (w *writer) stands() {
	w.Helper()
	now, behind := w.now(), -1
	for k, state := range w.states {
		if state == now && k >= w.lasting {
			behind = k
		}
	}
	if behind < 0 {
		w.Fatalf("the pages are those behind none of %d to %d transactions", w.lasting, len(w.states)-1)
	}
	x := w.s.Super()
	at := place{x.Start, x.Len}
	if at != w.was && at != w.to {
		w.Fatalf("the log is at %v; it was at %v, and asked to %v", at, w.was, w.to)
	}
	w.busy(false)
	w.states, w.lasting, w.was, w.to = w.states[behind:][:1], 0, at, at
}

// goes has the power go, and opens the store, the power going in the opening, too.
func (w *writer) goes(random *rand.Rand) {
	w.Helper()
	w.d.Crash(randomPicks(random))
	for random.IntN(2) == 0 {
		w.d.Cut(random.IntN(24))
		store.Open(w.d)
		w.d.Crash(randomPicks(random))
	}
	w.opens()
	w.stands()
}

// randomPicks are picks for a crash that go by nothing.
func randomPicks(random *rand.Rand) []int {
	picks := make([]int, random.IntN(128))
	for i := range picks {
		picks[i] = random.IntN(40) - 4
	}
	return picks
}

// story is moves with all that may be done beside them, a call behind the other.
func (w *writer) story() []func() {
	ask := func(start, length int) func() { return func() { w.ask(start, length) } }
	commit := func(numbers ...int) func() { return func() { w.commit(numbers...) } }
	sync := func() { w.lasts(w.s.Sync()) }
	refuse := func() { w.d.Fail(api.FailWrite, 1) }
	return []func(){
		commit(3, 4), ask(64, 64), w.step, commit(3), sync, w.step, commit(5, 6), commit(6, 7), w.step, w.step,
		commit(0, 1, 2, 3, 4, 5, 6, 7, 8, 9, 10, 11, 12, 13, 14, 15), ask(30, 70), w.step, w.step,
		commit(1, 3, 5, 7, 9, 11, 13, 15), commit(0, 2, 4), sync, ask(30, 70), w.step, w.step, commit(2), commit(3),
		ask(18, 110), w.step, commit(8, 9), w.m.Cancel, ask(18, 64), commit(9, 10), w.step, w.step, refuse, commit(11), commit(11, 12),
		ask(20, 108), w.step, commit(12), refuse, commit(13), w.step, w.step, commit(14), refuse, ask(18, 64), w.step, sync, w.step, w.step, commit(15, 0),
	}
}

// TestStory: without a crash all moves of the story are done, and the pages are those behind all of its transactions.
func TestStory(t *testing.T) {
	w := user(t)
	for _, call := range w.story() {
		call()
	}
	if w.busy(false); w.was != (place{18, 64}) {
		t.Errorf("the log is at %v at last", w.was)
	}
	if len(w.states) != 16 || w.now() != w.states[len(w.states)-1] {
		t.Errorf("the pages are not those behind all of %d transactions", len(w.states)-1)
	}
}

// TestCrashBetween: the power goes between any two calls of the story, whatever sectors persist.
func TestCrashBetween(t *testing.T) {
	random := rand.New(rand.NewPCG(7, 1))
	for n := range len(user(t).story()) + 1 {
		for _, picks := range append(somePicks(), randomPicks(random)) {
			w := user(t)
			for _, call := range w.story()[:n] {
				call()
			}
			w.d.Crash(picks)
			w.opens()
			w.stands()
			w.usable(random)
		}
	}
}

// storyOps is how many writes and flushes the story comes to.
func storyOps(t *testing.T) int {
	t.Helper()
	for n := 0; ; n++ {
		w := user(t)
		w.is("Cut", w.d.Cut(n), api.OK)
		for _, call := range w.story() {
			call()
		}
		if w.s.Sync() == api.OK {
			return n - 1
		}
	}
}

// TestCrashWithin: the power goes at any write or flush of the story's calls, and of the opening behind it, whatever sectors persist.
func TestCrashWithin(t *testing.T) {
	random := rand.New(rand.NewPCG(7, 2))
	whole := storyOps(t)
	if whole < 80 {
		t.Fatalf("the story comes to %d writes and flushes alone", whole)
	}
	for n := range whole + 1 {
		for _, picks := range append(somePicks(), randomPicks(random)) {
			w := user(t)
			w.is("Cut", w.d.Cut(n), api.OK)
			for _, call := range w.story() {
				call()
			}
			w.d.Crash(picks)
			w.goes(random)
			w.usable(random)
		}
	}
}

// usable asks that behind a crash the log can be moved on.
func (w *writer) usable(random *rand.Rand) {
	w.Helper()
	w.commit(some(random, 4)...)
	w.ask(18+random.IntN(40), 64+random.IntN(6))
	w.step()
	w.step()
	w.busy(false)
	w.commit(some(random, 4)...)
	w.lasts(w.s.Sync())
	w.d.Crash(nil)
	w.opens()
	w.stands()
}

// some are numbers of pages, that go by nothing.
func some(random *rand.Rand, most int) []int { return random.Perm(16)[:1+random.IntN(most)] }

// anything has one thing done.
func (w *writer) anything(random *rand.Rand) {
	w.Helper()
	switch random.IntN(16) {
	case 0:
		w.lasts(w.s.Sync())
	case 1:
		w.lasts(w.s.Checkpoint())
	case 2, 3, 4:
		w.ask(18+random.IntN(27), 64+random.IntN(20))
	case 5:
		if random.IntN(4) == 0 {
			w.m.Cancel()
		}
	case 6:
		w.d.Fail(api.FailWrite, 1+random.IntN(20))
	case 7:
		w.d.Fail(api.FailFlush, 1+random.IntN(3))
	case 8:
		if random.IntN(4) == 0 {
			w.d.Cut(random.IntN(30))
		}
	case 9, 10, 11, 12:
		w.step()
	case 13:
		w.commit(some(random, 16)...)
	default:
		w.commit(some(random, 3)...)
	}
}

// TestCrashAnyhow: the same of calls in any order, with errors of the disk among them, and of one crash behind the other.
func TestCrashAnyhow(t *testing.T) {
	for seed := range uint64(100) {
		random := rand.New(rand.NewPCG(seed, 7))
		w := user(t)
		for range 6 {
			for range random.IntN(60) {
				w.anything(random)
				if w.now() != w.states[len(w.states)-1] {
					t.Fatalf("seed %d: the pages are not those behind all transactions", seed)
				}
			}
			w.goes(random)
			if t.Failed() {
				t.Fatalf("seed %d", seed)
			}
		}
	}
}
