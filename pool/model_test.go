package pool_test

import (
	"maps"
	"math/rand/v2"
	"slices"
	"testing"

	"polder/api"
)

// chapter is a pool told once more: which pages are free goes by the counts as they were at the transaction's beginning, and by what was taken since.
type chapter struct {
	pages, first int
	under        bool
	was, now     []int            // counts
	taken        map[int]bool     // in the transaction
	kept         map[int]api.Page // as they were committed, but pages of counts
	written      map[int]api.Page // in the transaction
}

func newChapter(pages int) *chapter {
	c := &chapter{pages: pages, first: many(pages) + 1, was: newState(pages).counts}
	c.kept = map[int]api.Page{0: catalogue()}
	c.ends()
	return c
}

// ends has no transaction under way.
func (c *chapter) ends() {
	c.under = false
	c.now = slices.Clone(c.was)
	c.taken, c.written = map[int]bool{}, map[int]api.Page{}
}

func (c *chapter) begin() api.Errno {
	if c.under {
		return api.ErrBusy
	}
	c.under = true
	return api.OK
}

// images are which pages a Commit would write.
func (c *chapter) images() map[int]bool {
	l := map[int]bool{}
	for n := range c.written {
		l[n] = true
	}
	for n := range c.pages {
		if c.was[n] != c.now[n] {
			l[1+n/120] = true
		}
	}
	return l
}

// commit is Commit; disk is what the disk comes to, if it is asked.
func (c *chapter) commit(disk api.Errno) api.Errno {
	if !c.under {
		return api.ErrIdle
	}
	defer c.ends()
	images := c.images()
	if len(images) > 40 {
		return api.ErrTooBig
	}
	if len(images) > 0 && disk != api.OK {
		return disk
	}
	c.was = c.now
	maps.Copy(c.kept, c.written)
	return api.OK
}

func (c *chapter) isUsed(n int) bool { return n >= 0 && n < c.pages && c.now[n] > 0 }

// put is the store's Write.
func (c *chapter) put(n int, x api.Page) api.Errno {
	if x.Kind < 1 || x.Kind > 5 || len(x.Body) != 240 {
		return api.ErrArg
	}
	if _, ok := c.written[n]; !ok && len(c.written) == 40 {
		return api.ErrTooBig
	}
	c.written[n] = x
	return api.OK
}

func (c *chapter) write(n int, x api.Page) api.Errno {
	if !c.under {
		return api.ErrIdle
	}
	if !c.isUsed(n) || n >= 1 && n < c.first {
		return api.ErrRange
	}
	return c.put(n, x)
}

// free are the pages that may be taken.
func (c *chapter) free() []int {
	var l []int
	for n := range c.pages {
		if c.was[n] == 0 && !c.taken[n] {
			l = append(l, n)
		}
	}
	return l
}

func (c *chapter) fresh(x api.Page) (int, api.Errno) {
	if !c.under {
		return 0, api.ErrIdle
	}
	l := c.free()
	if len(l) == 0 {
		return 0, api.ErrSpace
	}
	c.taken[l[0]] = true
	if e := c.put(l[0], x); e != api.OK {
		return 0, e
	}
	c.now[l[0]] = 1
	return l[0], api.OK
}

// refer is Ref and Unref.
func (c *chapter) refer(n, by int) api.Errno {
	if !c.under {
		return api.ErrIdle
	}
	if !c.isUsed(n) || n < c.first {
		return api.ErrRange
	}
	if c.now[n]+by > 1000 {
		return api.ErrCount
	}
	c.now[n] += by
	return api.OK
}

// page is what is read.
func (c *chapter) page(n int) api.Page {
	if n >= 1 && n < c.first {
		return countsOf(c.was[120*(n-1) : min(120*n, c.pages)]...)
	}
	if x, ok := c.written[n]; ok {
		return x
	}
	return c.kept[n]
}

// told is all that is told of it.
func (c *chapter) told() state {
	x := state{counts: c.now, free: len(c.free())}
	for n := range c.pages {
		x.pages = append(x.pages, c.page(n))
	}
	return x
}

// The calls.
const (
	callBegin = iota
	callCommit
	callAbort
	callWrite
	callFresh
	callRef
	callUnref
	callSync
	callCheckpoint
	callSwitch
	callFail  // a write or a flush that fails
	callAgain // the pool is opened anew
	callCrash // so it is, behind a Sync and a crash
)

// call is one of them.
type call struct {
	kind, n int
	x       api.Page
}

// does has it done by both, whose answers are to be one.
func (x call) does(b *bench, c *chapter) {
	b.Helper()
	switch x.kind {
	case callBegin:
		b.is("Begin", b.p.Begin(), c.begin())
	case callCommit:
		// Whether the disk does what it is asked is not the chapter's to tell.
		e := b.p.Commit()
		disk := api.OK
		if e == api.ErrWrite {
			disk = e
		}
		b.is("Commit", e, c.commit(disk))
	case callAbort:
		b.p.Abort()
		c.ends()
	case callWrite:
		b.is("Write", b.p.Write(x.n, x.x), c.write(x.n, x.x))
	case callFresh:
		n, e := b.p.Fresh(x.x)
		want, wantE := c.fresh(x.x)
		if n != want || e != wantE {
			b.Errorf("Fresh = %d, %v, not %d, %v", n, e, want, wantE)
		}
	case callRef:
		b.refs(x.n, c.refer(x.n, 1))
	case callUnref:
		b.unrefs(x.n, c.refer(x.n, -1))
	default:
		x.asksStore(b, c)
	}
}

// asksStore is does, of what is not the pool's own.
func (x call) asksStore(b *bench, c *chapter) {
	b.Helper()
	switch x.kind {
	case callSync:
		b.stores("Sync", b.p.Sync(), c)
	case callCheckpoint:
		b.stores("Checkpoint", b.p.Checkpoint(), c)
	case callSwitch:
		e := b.p.Switch(place(b.pages)+x.n%8, api.MinLog+x.n%16)
		if dirty := len(b.p.Dirty()) > 0; !c.under && !dirty {
			b.stores("Switch", e, c)
		} else {
			b.is("Switch", e, api.ErrBusy)
		}
	case callFail:
		b.is("Fail", b.d.Fail(api.FailWrite+x.n%2, 1+x.n%3), api.OK)
	case callAgain, callCrash:
		x.opensAnew(b, c)
	}
}

// opensAnew opens the pool once more, with a catalogue, as without one it is none.
func (x call) opensAnew(b *bench, c *chapter) {
	b.Helper()
	b.d.Fail(api.FailWrite, api.MaxNumber)
	b.d.Fail(api.FailFlush, api.MaxNumber)
	if c.ends(); c.kept[0].Kind != api.KindCatalogue || x.kind == callCrash {
		b.p.Abort()
		for _, x := range []call{{kind: callBegin}, {kind: callWrite, x: catalogue()}, {kind: callCommit}, {kind: callSync}} {
			x.does(b, c)
		}
	}
	if x.kind == callCrash {
		b.d.Crash(nil)
	}
	b.opens()
}

// stores asks what the store answered: of whether the disk does what it is asked anything.
func (b *bench) stores(call string, e api.Errno, c *chapter) {
	b.Helper()
	if c.under {
		b.is(call, e, api.ErrBusy)
	} else if e != api.OK && e != api.ErrWrite && e != api.ErrFlush {
		b.Errorf("%s = %v", call, e)
	}
}

// like asks whether both are one.
func (b *bench) like(c *chapter) {
	b.Helper()
	b.under(c.under)
	b.stays(c.told())
	for _, n := range []int{-1, c.pages, c.pages + 1} {
		b.counted(n, 0)
	}
}

// fewCalls are some of 16 pages, of which 2 and 3 are in use; what one of them does another one undoes, or does once more.
func fewCalls() []call {
	return []call{
		{kind: callBegin},
		{kind: callCommit},
		{kind: callAbort},
		{kind: callFresh, x: page(7)},
		{kind: callFresh},
		{kind: callUnref, n: 2},
		{kind: callUnref, n: 4},
		{kind: callRef, n: 2},
		{kind: callWrite, n: 4, x: page(8)},
	}
}

// TestPaths: any four of a few calls, one behind the other, in a transaction and behind a Begin, answer what the chapter has, and leave what it leaves; behind an Abort, too.
func TestPaths(t *testing.T) {
	l := fewCalls()
	total := 1
	for range 4 {
		total *= len(l)
	}
	for path := range total {
		b, c := small(t), newChapter(16)
		for _, x := range []call{{kind: callBegin}, {kind: callFresh, x: page(1)}, {kind: callFresh, x: page(2)}, {kind: callCommit}, {kind: callBegin}} {
			x.does(b, c)
		}
		for rest, n := path, 0; n < 4; n++ {
			l[rest%len(l)].does(b, c)
			rest /= len(l)
		}
		b.like(c)
		call{kind: callAbort}.does(b, c)
		b.like(c)
		if t.Failed() {
			t.Fatalf("path %d", path)
		}
	}
}

// randomPage is one; now and then one that may not be.
func randomPage(r *rand.Rand) api.Page {
	if r.IntN(12) == 0 {
		return badPages()[r.IntN(len(badPages()))]
	}
	return page(byte(r.IntN(256)))
}

// randomCall is any one; some pages come often, so that their counts go down to 0.
func randomCall(r *rand.Rand, pages int) call {
	n := r.IntN(pages+4) - 2
	if r.IntN(2) == 0 {
		n = r.IntN(many(pages) + 8)
	}
	x := call{n: n, x: randomPage(r)}
	switch k := r.IntN(100); {
	case k < 12:
		x.kind = callBegin
	case k < 20:
		x.kind = callCommit
	case k < 23:
		x.kind = callAbort
	case k < 45:
		x.kind = callFresh
	case k < 55:
		x.kind = callRef
	case k < 78:
		x.kind = callUnref
	case k < 90:
		x.kind = callWrite
		if n == 0 && r.IntN(10) > 0 {
			x.x.Kind = api.KindCatalogue
		}
	default:
		x.kind = callSync + r.IntN(callCrash-callSync+1)
		x.n = r.IntN(24)
	}
	return x
}

// TestChapter: calls in any order answer what the chapter has, and leave what it leaves, also where the disk fails; and no page that was in use ahead of a transaction is taken in it.
func TestChapter(t *testing.T) {
	for _, pages := range []int{16, 17, 121, 250} {
		r := rand.New(rand.NewPCG(uint64(pages), 100))
		b, c := laid(t, pages), newChapter(pages)
		for i := range 6000 {
			x := randomCall(r, pages)
			x.does(b, c)
			if pages < 100 || i%8 == 0 {
				b.like(c)
			}
			for n := range c.taken {
				if c.was[n] != 0 {
					t.Errorf("page %d was in use", n)
				}
			}
			if t.Failed() {
				t.Fatalf("%d pages, call %d: %d %d", pages, i, x.kind, x.n)
			}
		}
		b.like(c)
	}
}

// TestFullChapter: so they do where few pages are free, or none: what fills a pool comes far more often than what gives back.
func TestFullChapter(t *testing.T) {
	for _, pages := range []int{16, 21, 122} {
		r := rand.New(rand.NewPCG(uint64(pages), 101))
		b, c := laid(t, pages), newChapter(pages)
		full := 0
		for i := range 5000 {
			var x call
			switch k := r.IntN(40); {
			case k < 5:
				x.kind = callBegin
			case k < 8:
				x.kind = callCommit
			case k < 9:
				x.kind = callAbort
			case k < 10:
				x = call{kind: callFail, n: r.IntN(6)}
			case k < 35:
				x = call{kind: callFresh, x: randomPage(r)}
			default:
				x = call{kind: callUnref, n: r.IntN(pages)}
			}
			x.does(b, c)
			if c.under && len(c.free()) == 0 {
				full++
			}
			b.like(c)
			if t.Failed() {
				t.Fatalf("%d pages, call %d", pages, i)
			}
		}
		if full < 100 {
			t.Errorf("%d pages: it was full %d times", pages, full)
		}
	}
}
