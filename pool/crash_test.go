package pool_test

import (
	"math/rand/v2"
	"testing"

	"polder/api"
	"polder/pool"
	"polder/store"
)

// TestAgain: a pool that is opened anew, on a store that was synced, is the same; behind a crash, too.
func TestAgain(t *testing.T) {
	for _, pages := range sizes() {
		b := laid(t, pages)
		first := many(pages) + 1
		last := pages - 1
		b.has(from(first, pages-first)...)
		b.begins()
		b.writes(0, 0, api.OK)
		b.unrefs(first+2, api.OK)
		b.refs(last, api.OK)
		b.unrefs(last-1, api.OK)
		b.commits()
		b.begins()
		b.fresh(77, first+2)
		b.commits()
		was := b.state()
		b.is("Sync", b.p.Sync(), api.OK)
		for range 2 {
			b.begins()
			b.unrefs(first, api.OK)
			b.refs(last, api.OK)
			b.writes(0, 5, api.OK)
			b.commits()
			b.begins()
			b.fresh(1, first)
			b.d.Crash(nil)
			b.opens()
			b.stays(was)
		}
		b.begins()
		b.fresh(5, last-1)
		b.commits()
		was = b.state()
		b.is("Sync", b.p.Sync(), api.OK)
		for _, picks := range somePicks(b.d.Size()) {
			b.opens()
			b.stays(was)
			b.begins()
			b.unrefs(last, api.OK)
			b.writes(first, 3, api.OK)
			b.d.Crash(picks)
			b.opens()
			b.stays(was)
		}
	}
}

// TestLost: without a Sync a crash takes what was committed, wholly, but where all of it persists.
func TestLost(t *testing.T) {
	ready := func() *bench {
		b := small(t)
		b.has(2, 3)
		b.is("Sync", b.p.Sync(), api.OK)
		return b
	}
	was := ready().state()
	for _, picks := range [][]int{nil, {1}, {1, 1, 0}, {0, 1, 1}, {1, 0, 1}, {1, 1}, {1, 1, 1}} {
		b := ready()
		b.begins()
		b.fresh(1, 4)
		b.unrefs(2, api.OK)
		b.commits()
		done := b.state()
		b.d.Crash(picks)
		b.opens()
		if len(picks) == 3 && picks[0]*picks[1]*picks[2] == 1 {
			b.stays(done)
			b.counted(2, 0, 1, 1, 0)
			b.free(12)
		} else {
			b.stays(was)
		}
	}
	b := small(t)
	b.has(2, 3)
	b.d.Crash(nil)
	b.opens()
	b.isNew()
}

// user is a pool that is used in a test, and what is known of it.
type user struct {
	*bench
	states  []state // behind 0, 1, .. of the transactions that were done
	lasting int     // how many of them were done ahead of the last Sync or Checkpoint that was answered OK
}

// using is a pool of two pages of counts as it is used.
func using(t *testing.T) *user {
	t.Helper()
	u := &user{bench: laid(t, 121)}
	u.states = []state{u.state()}
	return u
}

// does asks for a transaction; behind a power cut it may be refused.
func (u *user) does(change func()) {
	u.Helper()
	u.begins()
	change()
	if u.p.Commit() == api.OK {
		u.states = append(u.states, u.state())
		return
	}
	u.stays(u.states[len(u.states)-1])
}

// lasts takes what is answered by a call behind which all transactions are to last.
func (u *user) lasts(e api.Errno) {
	if e == api.OK {
		u.lasting = len(u.states) - 1
	}
}

// story is all that may be done to a pool; whether all of it was done.
func (u *user) story() {
	u.Helper()
	takes := func(many int) {
		for i := range many {
			u.p.Fresh(page(byte(len(u.states) + i)))
		}
	}
	u.does(func() { takes(3) })
	u.does(func() { u.p.Ref(4); u.p.Write(0, page(10)) })
	u.lasts(u.p.Sync())
	u.does(func() { takes(30); u.p.Unref(3) })
	u.does(func() { takes(14); u.p.Unref(4); u.p.Unref(4) })
	u.begins()
	takes(5)
	u.p.Unref(9)
	u.aborts()
	u.does(func() { u.p.Unref(10); u.p.Write(11, page(200)); takes(1) })
	u.lasts(u.p.Checkpoint())
	u.does(func() { takes(37) })
	u.does(func() { takes(31); takes(2) })
	u.does(func() { u.p.Unref(120); u.p.Ref(119); u.p.Ref(119); takes(2) })
	u.lasts(u.p.Sync())
	u.does(func() { u.p.Unref(119); takes(1) })
	u.does(func() { u.p.Write(50, page(201)); u.p.Unref(51) })
}

// storyOps is how many writes and flushes the story comes to.
func storyOps(t *testing.T) int {
	t.Helper()
	for n := range 1000 {
		u := using(t)
		u.is("Cut", u.d.Cut(n), api.OK)
		u.story()
		if u.p.Sync() == api.OK {
			return n - 1
		}
		if t.Failed() {
			t.Fatalf("behind %d", n)
		}
	}
	t.Fatal("the story does not end")
	return 0
}

// behind tells behind how many transactions the pool is as it is.
func (u *user) behind() int {
	u.Helper()
	now := u.state()
	for k, x := range u.states {
		if alike(now, x) {
			return k
		}
	}
	u.Fatalf("the pool is as behind none of %d transactions", len(u.states)-1)
	return 0
}

// TestPrefix: the power goes at any write or flush of the story, whatever sectors persist: counts, free pages and pages are those behind some number of the transactions, from the first on, and at least behind those that are to last.
func TestPrefix(t *testing.T) {
	whole := storyOps(t)
	if whole < 40 {
		t.Fatalf("the story comes to %d writes and flushes alone", whole)
	}
	random := rand.New(rand.NewPCG(10, 7))
	seen := map[int]bool{}
	for n := range whole + 1 {
		for _, picks := range append(somePicks(240), randomPicks(random), randomPicks(random)) {
			u := using(t)
			u.is("Cut", u.d.Cut(n), api.OK)
			u.story()
			u.d.Crash(picks)
			u.opens()
			k := u.behind()
			if k < u.lasting {
				t.Errorf("the pool is as behind %d transactions; %d were to last", k, u.lasting)
			}
			seen[k] = true
			u.does(func() { u.p.Unref(3); u.p.Fresh(page(1)); u.p.Ref(5) })
			u.is("Sync", u.p.Sync(), api.OK)
			was := u.state()
			u.d.Crash(nil)
			u.opens()
			u.stays(was)
			if t.Failed() {
				t.Fatalf("behind %d of %d", n, whole)
			}
		}
	}
	if len(seen) < 9 {
		t.Errorf("only %v were seen", seen)
	}
}

// randomPicks are picks for a crash that go by nothing.
func randomPicks(random *rand.Rand) []int {
	picks := make([]int, random.IntN(128))
	for i := range picks {
		picks[i] = random.IntN(40) - 4
	}
	return picks
}

// TestOpenCut: the power goes while the store is opened, as often as one likes: the pool is the same.
func TestOpenCut(t *testing.T) {
	u := using(t)
	u.story()
	u.is("Sync", u.p.Sync(), api.OK)
	was := u.state()
	for n := range 200 {
		u.is("Cut", u.d.Cut(n), api.OK)
		s, e := store.Open(u.d)
		if e == api.OK {
			p, e := pool.Open(s)
			u.is("Open", e, api.OK)
			u.s, u.p = s, p
			u.stays(was)
			return
		}
		u.d.Crash(somePicks(240)[n%5])
	}
	t.Error("the store is never opened")
}
