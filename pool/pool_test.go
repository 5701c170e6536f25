package pool_test

import (
	"bytes"
	"slices"
	"testing"

	"polder/api"
	"polder/disk"
	"polder/pool"
	"polder/store"
)

const (
	least = -1 << 63
	most  = 1<<63 - 1
)

// bench is a disk in a test, and the pool on it (nil where there is none yet).
type bench struct {
	*testing.T
	d     *disk.Disk
	pages int
	s     *store.Store // the pool's
	p     *pool.Pool
}

// blank is a new disk with room for so many pages, and a log behind them.
func blank(t *testing.T, pages int) *bench {
	t.Helper()
	d, e := disk.New(place(pages) + api.MinLog + 46)
	if e != api.OK {
		t.Fatalf("disk.New: %v", e)
	}
	return &bench{T: t, d: d, pages: pages}
}

// place is where the log of a bench stands.
func place(pages int) int { return 2 + pages }

// format is a Format as a bench has it.
func (b *bench) format() api.Errno { return pool.Format(b.d, b.pages, place(b.pages), api.MinLog) }

// laid is a new pool of so many pages.
func laid(t *testing.T, pages int) *bench {
	t.Helper()
	b := blank(t, pages)
	b.is("Format", b.format(), api.OK)
	b.opens()
	return b
}

// small is the pool of the chapter's examples.
func small(t *testing.T) *bench {
	t.Helper()
	return laid(t, 16)
}

// store is the store on the disk, opened anew.
func (b *bench) store() *store.Store {
	b.Helper()
	s, e := store.Open(b.d)
	if s == nil || e != api.OK {
		b.Fatalf("store.Open = %v, %v", s, e)
	}
	return s
}

// opens opens the pool, anew.
func (b *bench) opens() {
	b.Helper()
	s := b.store()
	p, e := pool.Open(s)
	if p == nil || e != api.OK {
		b.Fatalf("Open = %v, %v", p, e)
	}
	b.s, b.p = s, p
	b.under(false)
}

// refuses asks an Open that is refused.
func (b *bench) refuses(s *store.Store, want api.Errno) {
	b.Helper()
	if p, e := pool.Open(s); p != nil || e != want {
		b.Errorf("Open = %v, %v, not %v", p, e, want)
	}
}

// is asks what a call answered.
func (b *bench) is(call string, got, want api.Errno) {
	b.Helper()
	if got != want {
		b.Errorf("%s = %v, not %v", call, got, want)
	}
}

// page is full of one byte, by which its kind goes, too.
func page(fill byte) api.Page {
	return api.Page{Kind: 1 + int(fill)%5, Body: bytes.Repeat([]byte{fill}, api.BodySize)}
}

// badPages are pages that may not be.
func badPages() []api.Page {
	body := make([]byte, api.BodySize)
	return []api.Page{{}, {Kind: api.KindData}, {Body: body}, {Kind: 6, Body: body}, {Kind: -1, Body: body}, {Kind: api.KindData, Body: body[1:]}, {Kind: api.KindData, Body: append(body, 0)}}
}

// same tells whether two pages are one; no Body and an empty one are.
func same(x, y api.Page) bool { return x.Kind == y.Kind && bytes.Equal(x.Body, y.Body) }

// begins begins a transaction.
func (b *bench) begins() {
	b.Helper()
	b.is("Begin", b.p.Begin(), api.OK)
	b.under(true)
}

// commits ends it.
func (b *bench) commits() {
	b.Helper()
	b.is("Commit", b.p.Commit(), api.OK)
	b.under(false)
}

// aborts ends it.
func (b *bench) aborts() {
	b.Helper()
	b.p.Abort()
	b.under(false)
}

// under asks whether a transaction is under way.
func (b *bench) under(want bool) {
	b.Helper()
	if got := b.p.Under(); got != want {
		b.Errorf("Under = %v", got)
	}
}

// writes writes a page.
func (b *bench) writes(n int, fill byte, want api.Errno) {
	b.Helper()
	if got := b.p.Write(n, page(fill)); got != want {
		b.Errorf("Write(%d) = %v, not %v", n, got, want)
	}
}

// fresh takes a page, which is to be this one.
func (b *bench) fresh(fill byte, want int) {
	b.Helper()
	if n, e := b.p.Fresh(page(fill)); n != want || e != api.OK {
		b.Errorf("Fresh = %d, %v, not %d", n, e, want)
	}
}

// noFresh asks for a page that is refused.
func (b *bench) noFresh(x api.Page, want api.Errno) {
	b.Helper()
	if n, e := b.p.Fresh(x); n != 0 || e != want {
		b.Errorf("Fresh = %d, %v, not %v", n, e, want)
	}
}

// refs refers to a page once more.
func (b *bench) refs(n int, want api.Errno) {
	b.Helper()
	if got := b.p.Ref(n); got != want {
		b.Errorf("Ref(%d) = %v, not %v", n, got, want)
	}
}

// unrefs refers to it once less.
func (b *bench) unrefs(n int, want api.Errno) {
	b.Helper()
	if got := b.p.Unref(n); got != want {
		b.Errorf("Unref(%d) = %v, not %v", n, got, want)
	}
}

// counted asks for pages' counts, from one on.
func (b *bench) counted(n int, want ...int) {
	b.Helper()
	for i, count := range want {
		if got := b.p.Count(n + i); got != count {
			b.Errorf("Count(%d) = %d, not %d", n+i, got, count)
		}
	}
}

// free asks how many pages may be taken.
func (b *bench) free(want int) {
	b.Helper()
	if got := b.p.Free(); got != want {
		b.Errorf("Free = %d, not %d", got, want)
	}
}

// reads asks what a page is.
func (b *bench) reads(n int, want api.Page) {
	b.Helper()
	if x, e := b.p.Read(n); e != api.OK || !same(x, want) {
		b.Errorf("Read(%d) = %d %x.., %v, not %d %x..", n, x.Kind, x.Body[:min(1, len(x.Body))], e, want.Kind, want.Body[:min(1, len(want.Body))])
	}
}

// has has pages in use, of these numbers, as the first ones that are free; it takes 35 of them in a transaction.
func (b *bench) has(numbers ...int) {
	b.Helper()
	for numbers := range slices.Chunk(numbers, 35) {
		b.begins()
		for _, n := range numbers {
			b.fresh(byte(n), n)
		}
		b.commits()
	}
}

// from is so many numbers, from one on.
func from(n, many int) []int {
	numbers := make([]int, many)
	for i := range numbers {
		numbers[i] = n + i
	}
	return numbers
}

// state is all that is told of a pool: what is told behind the last page, too.
type state struct {
	counts []int
	free   int
	pages  []api.Page
}

// state tells it.
func (b *bench) state() state {
	b.Helper()
	if b.p.Pages() != b.pages {
		b.Fatalf("Pages = %d, not %d", b.p.Pages(), b.pages)
	}
	if b.p.Store() != b.s {
		b.Error("Store is not the one that was opened")
	}
	x := state{free: b.p.Free()}
	for n := range b.pages {
		one, e := b.p.Read(n)
		b.is("Read", e, api.OK)
		x.counts = append(x.counts, b.p.Count(n))
		x.pages = append(x.pages, one)
	}
	return x
}

// alike tells whether two states are one.
func alike(x, y state) bool {
	return x.free == y.free && slices.Equal(x.counts, y.counts) && slices.EqualFunc(x.pages, y.pages, same)
}

// stays asks that all is as it was.
func (b *bench) stays(was state) {
	b.Helper()
	now := b.state()
	if now.free != was.free || !slices.Equal(now.counts, was.counts) {
		b.Errorf("%d pages are free, not %d; counts are %v, not %v", now.free, was.free, now.counts, was.counts)
	}
	for n, x := range now.pages {
		if !same(x, was.pages[n]) {
			b.Errorf("page %d is another one than it was", n)
		}
	}
}

// quiet asks that a call writes and flushes nothing: what is to fail with the next one of these does not.
func (b *bench) quiet(what string, call func()) {
	b.Helper()
	for _, kind := range []int{api.FailWrite, api.FailFlush} {
		b.is("Fail", b.d.Fail(kind, 1), api.OK)
	}
	call()
	if b.d.Write(0, make([]byte, api.SectorSize), false) != api.ErrWrite || b.d.Flush() != api.ErrFlush {
		b.Errorf("%s asked something of the disk", what)
	}
}

// TestExamples are the chapter's.
func TestExamples(t *testing.T) {
	b := small(t)
	b.noFresh(page(1), api.ErrIdle)
	b.begins()
	b.fresh(1, 2)
	b.counted(2, 1)
	b.free(13)
	b.refs(2, api.OK)
	b.unrefs(2, api.OK)
	b.unrefs(2, api.OK)
	b.counted(2, 0)
	b.fresh(2, 3)
	b.commits()
	b.free(13)
	b.begins()
	b.fresh(3, 2)
	b.unrefs(0, api.ErrRange)
	b.writes(9, 1, api.ErrRange)
	b.refs(9, api.ErrRange)
}

// TestCount: of any number; 0 of no page.
func TestCount(t *testing.T) {
	for _, pages := range sizes() {
		b := laid(t, pages)
		first := many(pages) + 1
		last := pages - 1
		b.has(from(first, pages-first)...)
		b.begins()
		for range 999 {
			b.refs(last, api.OK)
		}
		b.refs(first, api.OK)
		for range 2 {
			for _, n := range []int{least, -1 << 32, -1, pages, pages + 1, 1 << 10, 1 << 32, most} {
				b.counted(n, 0)
			}
			for n := range first {
				b.counted(n, 1)
			}
			b.counted(first, 2, 1)
			b.counted(last-1, 1, 1000)
			b.commits()
			b.begins()
		}
	}
}

// TestFree: pages that might be taken, whether or not a transaction is under way; those that were given back only behind its Commit.
func TestFree(t *testing.T) {
	for _, pages := range sizes() {
		b := laid(t, pages)
		first := many(pages) + 1
		all := pages - first
		b.free(all)
		b.begins()
		b.free(all)
		b.fresh(1, first)
		b.free(all - 1)
		b.unrefs(first, api.OK)
		b.free(all - 1)
		b.fresh(2, first+1)
		b.free(all - 2)
		b.commits()
		b.free(all - 1)
		b.begins()
		b.unrefs(first+1, api.OK)
		b.free(all - 1)
		b.aborts()
		b.free(all - 1)
		b.begins()
		b.unrefs(first+1, api.OK)
		b.commits()
		b.free(all)
		if b.p.Pages() != pages {
			t.Errorf("Pages = %d, not %d", b.p.Pages(), pages)
		}
	}
}

// promoted are the calls that a pool has of its store.
type promoted interface {
	Sync() api.Errno
	Checkpoint() api.Errno
	Switch(start, length int) api.Errno
	Super() api.Super
	Dirty() []int
}

// TestPromoted: the store's calls are the pool's, where it has none of its own.
func TestPromoted(t *testing.T) {
	b := small(t)
	var s promoted = b.p
	first := api.Super{Gen: 4, Epoch: 3, Pages: 16, Start: 18, Len: 64, Head: 0, Seq: 1}
	if s.Super() != first || b.p.Store().Super() != first || len(s.Dirty()) != 0 {
		t.Errorf("Super = %+v, Dirty = %v", s.Super(), s.Dirty())
	}
	b.begins()
	b.fresh(1, 2)
	b.is("Sync", s.Sync(), api.ErrBusy)
	b.is("Checkpoint", s.Checkpoint(), api.ErrBusy)
	b.is("Switch", s.Switch(20, 64), api.ErrBusy)
	b.commits()
	if !slices.Equal(s.Dirty(), []int{1, 2}) || !slices.Equal(b.p.Store().Dirty(), []int{1, 2}) {
		t.Errorf("Dirty = %v", s.Dirty())
	}
	b.is("Switch", s.Switch(20, 64), api.ErrBusy)
	if len(b.d.Dirty()) == 0 {
		t.Error("a Commit was flushed")
	}
	b.is("Sync", s.Sync(), api.OK)
	if len(b.d.Dirty()) != 0 {
		t.Error("a Sync was not")
	}
	b.is("Checkpoint", s.Checkpoint(), api.OK)
	b.is("Switch", s.Switch(17, 64), api.ErrArg)
	b.is("Switch", s.Switch(20, 66), api.OK)
	if x := s.Super(); x.Start != 20 || x.Len != 66 || b.p.Store().Super() != x {
		t.Errorf("Super = %+v", x)
	}
	b.counted(0, 1, 1, 1, 0)
	b.reads(2, page(1))
	b.has(3)
}

// TestOwnFirst: what has a name that the store has, too, is the pool's own call.
func TestOwnFirst(t *testing.T) {
	b := small(t)
	was := b.state()
	b.begins()
	b.writes(1, 1, api.ErrRange) // the store's would write it
	b.writes(2, 1, api.ErrRange)
	b.fresh(1, 2)
	b.aborts() // the store's would leave the count
	b.stays(was)
	b.has(2) // the store's Commit would write no counts
	b.opens()
	b.counted(2, 1)
}

// TestPastThePool: a transaction that is ended at the store itself, past the pool, leaves nothing to the next one.
func TestPastThePool(t *testing.T) {
	for _, end := range []func(s *store.Store){
		func(s *store.Store) { s.Abort() },
		func(s *store.Store) { s.Commit() },
	} {
		b := small(t)
		b.has(2, 3)
		b.begins()
		b.unrefs(2, api.OK)
		b.refs(3, api.OK)
		b.fresh(9, 4)
		end(b.p.Store())
		b.begins()
		b.counted(2, 1, 1, 0)
		b.free(12)
		b.fresh(8, 4)
		b.commits()
		was := b.state()
		b.opens()
		b.stays(was)
		b.counted(2, 1, 1, 1, 0)
	}
}

// TestOwnMemory: what is handed in is not kept, what is answered is its caller's, spare room too.
func TestOwnMemory(t *testing.T) {
	b := small(t)
	spoil := func(x api.Page) {
		body := x.Body[:cap(x.Body)]
		for i := range body {
			body[i] ^= 255
		}
	}
	room := bytes.Repeat([]byte{7}, 300)
	x := api.Page{Kind: api.KindData, Body: room[:api.BodySize]}
	b.begins()
	n, e := b.p.Fresh(x)
	b.is("Fresh", e, api.OK)
	b.is("Write", b.p.Write(0, x), api.OK)
	if !bytes.Equal(room, bytes.Repeat([]byte{7}, 300)) {
		t.Error("what was handed in was changed")
	}
	spoil(x)
	want := api.Page{Kind: api.KindData, Body: bytes.Repeat([]byte{7}, api.BodySize)}
	asked := func() {
		t.Helper()
		for range 2 {
			for _, n := range []int{n, 0} {
				b.reads(n, want)
				x, _ := b.p.Read(n)
				spoil(x)
			}
			x, _ := b.p.Read(1)
			spoil(x)
			l := b.p.Dirty()
			for i := range l {
				l[i] = 99
			}
		}
	}
	asked()
	b.commits()
	asked()
	b.is("Checkpoint", b.p.Checkpoint(), api.OK)
	asked()
	b.begins()
	b.writes(0, 0, api.OK)
	b.commits()
	b.opens()
	b.counted(0, 1, 1, 1, 0)
}
