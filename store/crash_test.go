package store_test

import (
	"math/rand/v2"
	"testing"

	"polder/api"
	"polder/disk"
	"polder/store"
)

// pages are all pages of a small store.
type pages [16]api.Page

// writer is a store that is used in a test, and what is known of it.
type writer struct {
	*bench
	states  []pages // behind 0, 1, .. of the transactions that were done
	lasting int     // how many of them were done ahead of the last Sync, Checkpoint or Switch that was answered OK
	filled  byte    // what the last page was full of
}

// user is a small store as it is used.
func user(t *testing.T) *writer {
	t.Helper()
	return &writer{bench: small(t), states: make([]pages, 1)}
}

// commit asks for a transaction that writes some pages, each with what no other one has.
func (w *writer) commit(numbers ...int) {
	w.Helper()
	w.is("Begin", w.s.Begin(), api.OK)
	now := w.states[len(w.states)-1]
	for _, p := range numbers {
		w.filled++
		now[p] = page(w.filled)
		w.is("Write", w.s.Write(p, now[p]), api.OK)
	}
	if w.s.Commit() == api.OK {
		w.states = append(w.states, now)
	}
}

// lasts takes what is answered by a call behind which all transactions are to last.
func (w *writer) lasts(e api.Errno) {
	if e == api.OK {
		w.lasting = len(w.states) - 1
	}
}

// now is what the pages are.
func (w *writer) now() pages {
	w.Helper()
	var now pages
	for p := range now {
		x, e := w.s.Read(p)
		w.is("Read", e, api.OK)
		now[p] = x
	}
	return now
}

// behind tells behind how many transactions the pages are as they are.
func (w *writer) behind() int {
	w.Helper()
	now := w.now()
	for k, state := range w.states {
		if alikePages(now, state) {
			return k
		}
	}
	w.Fatalf("the pages are those behind none of %d transactions", len(w.states)-1)
	return 0
}

func alikePages(x, y pages) bool {
	for p := range x {
		if !same(x[p], y[p]) {
			return false
		}
	}
	return true
}

// lastingOnes asks that the pages are those behind some number of transactions, and at least behind those that are to last.
func (w *writer) lastingOnes() {
	w.Helper()
	if k := w.behind(); k < w.lasting {
		w.Fatalf("the pages are those behind %d transactions; %d were to last", k, w.lasting)
	}
	w.tells(w.s.Super())
}

// copied is a writer of like knowledge, without a store, on a disk of its own with the same bytes, all of them durable.
func (w *writer) copied() *writer {
	w.Helper()
	d, e := disk.New(w.d.Size())
	w.is("disk.New", e, api.OK)
	other := *w
	other.bench = &bench{T: w.T, d: d, table: w.table}
	other.puts(0, w.all())
	return &other
}

// story is all that may be done to a store, a call behind the other; it is told behind which calls all is to last.
func (w *writer) story() {
	w.Helper()
	w.commit(3, 4)
	w.commit(3)
	w.lasts(w.s.Sync())
	w.commit(4, 5, 6)
	w.lasts(w.s.Checkpoint())
	w.commit(5)
	w.writes(7, 200)
	w.s.Abort()
	w.commit(0, 1, 2, 3, 4, 5, 6, 7, 8, 9, 10, 11, 12, 13, 14, 15)
	w.commit(0, 2, 4, 6, 8, 10, 12, 14, 1, 3, 5, 7, 9, 11, 13)
	w.commit(1, 2, 3, 4, 5, 6, 7, 8, 9, 10, 11, 12)
	w.commit(9)
	w.commit(15, 0, 1, 2, 3, 4, 5, 6, 7, 8, 9, 10, 11, 12, 13) // 50 of the log's 64 sectors are taken
	w.commit(10, 11, 12, 13, 14, 15, 1, 2, 3, 4)
	w.d.Fail(api.FailWrite, 1)
	w.commit(7, 8)
	w.commit(8)
	w.commit(9, 10)
	w.lasts(w.s.Checkpoint())
	w.lasts(w.s.Switch(40, 66))
	w.commit(11, 12)
	w.commit(12)
	w.lasts(w.s.Checkpoint())
	w.d.Fail(api.FailWrite, 1)
	w.commit(14)
	w.lasts(w.s.Switch(18, 70))
	w.commit(13)
}

// storyOps is how many writes and flushes the story comes to.
func storyOps(t *testing.T) int {
	t.Helper()
	for n := 0; ; n++ {
		w := user(t)
		w.is("Cut", w.d.Cut(n), api.OK)
		w.story()
		if w.s.Sync() == api.OK {
			return n - 1
		}
	}
}

// TestPrefix: the power goes at any write or flush of the story's calls, and of the opening behind it, whatever sectors persist: the pages are those behind some number of the transactions, from the first on.
func TestPrefix(t *testing.T) {
	whole := storyOps(t)
	if whole < 70 {
		t.Fatalf("the story comes to %d writes and flushes alone", whole)
	}
	random := rand.New(rand.NewPCG(6, 9))
	for n := range whole + 1 {
		for _, picks := range append(somePicks(), randomPicks(random), randomPicks(random)) {
			w := user(t)
			w.is("Cut", w.d.Cut(n), api.OK)
			w.story()
			w.d.Crash(picks)
			w.openAnyhow(random)
			if t.Failed() {
				t.Fatalf("behind %d of %d", n, whole)
			}
		}
	}
}

// randomPicks are picks for a crash that go by nothing.
func randomPicks(random *rand.Rand) []int {
	picks := make([]int, random.IntN(128))
	for i := range picks {
		picks[i] = random.IntN(40) - 4
	}
	return picks
}

// openAnyhow opens the store, with the power going at any write or flush of the opening, any sectors persisting.
func (w *writer) openAnyhow(random *rand.Rand) {
	w.Helper()
	for n := 0; ; n++ {
		one := w.copied()
		one.is("Cut", one.d.Cut(n), api.OK)
		_, e := store.Open(one.d)
		if e != api.OK && e != api.ErrWrite && e != api.ErrFlush {
			w.Fatalf("Open, cut, = %v", e)
		}
		one.d.Crash(randomPicks(random))
		one.opens()
		one.lastingOnes()
		k := one.behind()
		one.d.Crash(nil)
		one.opens()
		if again := one.behind(); again != k {
			w.Fatalf("what was opened behind %d transactions is opened behind %d", k, again)
		}
		if e == api.OK {
			return
		}
	}
}

// TestAllLast: what is committed ahead of a Sync, a Checkpoint or a Switch that is answered OK is there behind a crash of which nothing else persists; what is committed behind it is not.
func TestAllLast(t *testing.T) {
	for _, last := range []func(w *writer){
		func(w *writer) { w.lasts(w.s.Sync()) },
		func(w *writer) { w.lasts(w.s.Checkpoint()) },
		func(w *writer) { w.lasts(w.s.Checkpoint()); w.lasts(w.s.Switch(40, 64)) },
	} {
		w := user(t)
		w.commit(3, 4)
		w.commit(4, 5)
		last(w)
		if w.lasting != 2 {
			t.Fatal("it is refused")
		}
		w.commit(5, 6)
		w.d.Crash(nil)
		w.opens()
		if k := w.behind(); k != 2 {
			t.Errorf("behind a crash the pages are those behind %d transactions", k)
		}
	}
}

// some are numbers of pages, that go by nothing.
func some(random *rand.Rand, most int) []int { return random.Perm(16)[:1+random.IntN(most)] }

// step has one thing done.
func (w *writer) step(random *rand.Rand) {
	w.Helper()
	switch random.IntN(16) {
	case 0:
		w.lasts(w.s.Sync())
	case 1:
		w.lasts(w.s.Checkpoint())
	case 2:
		w.lasts(w.s.Switch(18+random.IntN(46), 64+random.IntN(20)))
	case 3:
		w.d.Fail(api.FailWrite, 1+random.IntN(20))
	case 4:
		w.d.Fail(api.FailFlush, 1+random.IntN(3))
	case 5:
		if random.IntN(6) == 0 {
			w.d.Cut(random.IntN(30))
		}
	case 6, 7:
		w.commit(some(random, 16)...)
	default:
		w.commit(some(random, 3)...)
	}
}

// TestPrefixAnyhow: the same of calls in any order, with errors of the disk among them, and of one crash behind the other.
func TestPrefixAnyhow(t *testing.T) {
	for seed := range uint64(120) {
		random := rand.New(rand.NewPCG(seed, 69))
		w := user(t)
		for range 5 {
			for range random.IntN(60) {
				w.step(random)
				if !alikePages(w.now(), w.states[len(w.states)-1]) {
					t.Fatalf("seed %d: the pages are not those behind all transactions", seed)
				}
			}
			w.d.Crash(randomPicks(random))
			for w.crashOpening(random) {
			}
			w.opens()
			w.lastingOnes()
			w.states, w.lasting = w.states[w.behind():][:1], 0
			if t.Failed() {
				t.Fatalf("seed %d", seed)
			}
		}
	}
}

// crashOpening opens the store till the power goes, somewhere in it; it tells whether it is to be done once more.
func (w *writer) crashOpening(random *rand.Rand) bool {
	w.Helper()
	w.d.Cut(random.IntN(20))
	store.Open(w.d)
	w.d.Crash(randomPicks(random))
	return random.IntN(3) > 0
}
