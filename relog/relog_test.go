package relog_test

import (
	"bytes"
	"math"
	"slices"
	"testing"

	"polder/api"
	"polder/codec"
	"polder/crc"
	"polder/disk"
	"polder/relog"
	"polder/store"
	"polder/super"
)

// bench is a disk in a test, with a table, the store on it, and that one's mover.
type bench struct {
	*testing.T
	d     *disk.Disk
	table *crc.Table
	s     *store.Store
	m     *relog.Mover
}

// small is the store of the chapter's examples, without a dirty page, and its mover.
func small(t *testing.T) *bench {
	t.Helper()
	d, e := disk.New(128)
	b := &bench{T: t, d: d, table: crc.New()}
	b.is("disk.New", e, api.OK)
	b.is("Format", store.Format(b.d, 16, 18, 64), api.OK)
	b.opens()
	return b
}

// ready is that of the examples: page 3 is dirty.
func ready(t *testing.T) *bench {
	t.Helper()
	b := small(t)
	b.commits(3, 1)
	return b
}

// first is the superblock of a small store that was opened once.
func first() api.Super {
	return api.Super{Gen: 3, Epoch: 2, Pages: 16, Start: 18, Len: 64, Head: 0, Seq: 1}
}

// changed is a superblock's next one, of a log that was moved.
func changed(x api.Super, start, length int) api.Super {
	return api.Super{Gen: x.Gen + 1, Epoch: x.Epoch + 1, Pages: x.Pages, Start: start, Len: length, Head: 0, Seq: 1}
}

// opens opens the store, and has a mover of it.
func (b *bench) opens() {
	b.Helper()
	s, e := store.Open(b.d)
	if s == nil || e != api.OK {
		b.Fatalf("Open = %v, %v", s, e)
	}
	b.s = s
	b.has(b.d.Size())
}

// has makes the store a mover for a disk of so many sectors.
func (b *bench) has(sectors int) {
	b.Helper()
	if b.m = relog.New(b.s, sectors); b.m == nil {
		b.Fatalf("New(.., %d) = nil", sectors)
	}
}

// page is full of one byte, by which its kind goes, too.
func page(fill byte) api.Page {
	return api.Page{Kind: 1 + int(fill)%5, Body: bytes.Repeat([]byte{fill}, api.BodySize)}
}

// is asks what a call answered.
func (b *bench) is(call string, got, want api.Errno) {
	b.Helper()
	if got != want {
		b.Errorf("%s = %v, not %v", call, got, want)
	}
}

// asks asks for a move.
func (b *bench) asks(start, length int, want api.Errno) {
	b.Helper()
	was := b.m.Busy()
	if e := b.m.Ask(start, length); e != want {
		b.Errorf("Ask(%d, %d) = %v, not %v", start, length, e, want)
	}
	b.busy(was || want == api.OK)
}

// steps does a step.
func (b *bench) steps(done bool, want api.Errno) {
	b.Helper()
	was := b.m.Busy()
	if got, e := b.m.Step(); got != done || e != want {
		b.Errorf("Step = %v, %v, not %v, %v", got, e, done, want)
	}
	b.busy(was && !done)
}

// busy asks whether a move is under way.
func (b *bench) busy(want bool) {
	b.Helper()
	if got := b.m.Busy(); got != want {
		b.Errorf("Busy = %v, not %v", got, want)
	}
}

// same tells whether two pages are one; no Body and an empty one are.
func same(x, y api.Page) bool { return x.Kind == y.Kind && bytes.Equal(x.Body, y.Body) }

// reads asks what a page is.
func (b *bench) reads(p int, want api.Page) {
	b.Helper()
	if x, e := b.s.Read(p); e != api.OK || !same(x, want) {
		b.Errorf("Read(%d) = %d %x.., %v, not %d %x..", p, x.Kind, x.Body[:min(1, len(x.Body))], e, want.Kind, want.Body[:min(1, len(want.Body))])
	}
}

// writes writes pages, that begin with one number, in a transaction that it begins.
func (b *bench) writes(p int, fills ...byte) {
	b.Helper()
	b.is("Begin", b.s.Begin(), api.OK)
	for i, fill := range fills {
		b.is("Write", b.s.Write(p+i, page(fill)), api.OK)
	}
}

// commits does so, and ends the transaction.
func (b *bench) commits(p int, fills ...byte) {
	b.Helper()
	b.writes(p, fills...)
	b.is("Commit", b.s.Commit(), api.OK)
}

// tells asks for the store's superblock and its dirty pages.
func (b *bench) tells(x api.Super, dirty ...int) {
	b.Helper()
	if got := b.s.Super(); got != x {
		b.Errorf("Super = %+v, not %+v", got, x)
	}
	if got := b.s.Dirty(); !slices.Equal(got, dirty) {
		b.Errorf("Dirty = %v, not %v", got, dirty)
	}
}

// all is the bytes of the whole disk.
func (b *bench) all() []byte {
	b.Helper()
	data, e := b.d.Read(0, b.d.Size())
	b.is("Read", e, api.OK)
	return data
}

// pageSector is a page as it lies at home.
func (b *bench) pageSector(p int, x api.Page) []byte {
	b.Helper()
	sector, e := codec.PutPage(b.table, api.Image{Number: p, Page: x})
	b.is("PutPage", e, api.OK)
	return sector
}

// superSector is a superblock as it lies on the disk.
func (b *bench) superSector(x api.Super) []byte {
	b.Helper()
	sector, e := codec.PutSuper(b.table, x)
	b.is("PutSuper", e, api.OK)
	return sector
}

// quiet asks that calls ask the disk for nothing, and leave it and what the store tells as they are.
func (b *bench) quiet(what string, calls func()) {
	b.Helper()
	data, sectors, x, dirty := b.all(), b.d.Dirty(), b.s.Super(), b.s.Dirty()
	b.is("Fail", b.d.Fail(api.FailFlush, 1), api.OK)
	b.is("Fail", b.d.Fail(api.FailWrite, 1), api.OK)
	b.is("Fail", b.d.Fail(api.FailRead, 1), api.OK)
	calls()
	if _, e := b.d.Read(0, 1); e != api.ErrRead {
		b.Errorf("%s reads", what)
	}
	if e := b.d.Write(0, make([]byte, api.SectorSize), false); e != api.ErrWrite {
		b.Errorf("%s writes", what)
	}
	if e := b.d.Flush(); e != api.ErrFlush {
		b.Errorf("%s flushes", what)
	}
	if !bytes.Equal(b.all(), data) || !slices.Equal(b.d.Dirty(), sectors) {
		b.Errorf("%s changes the disk", what)
	}
	b.tells(x, dirty...)
}

func TestExamples(t *testing.T) {
	b := ready(t)
	b.steps(false, api.ErrIdle)
	b.asks(17, 64, api.ErrArg)
	b.asks(18, 63, api.ErrArg)
	b.asks(65, 64, api.ErrArg)
	b.asks(64, 64, api.OK)
	b.asks(20, 70, api.ErrBusy)
	b.steps(false, api.OK)
	next := first()
	next.Gen, next.Head, next.Seq = 4, 2, 2
	b.tells(next)
	b.steps(true, api.OK)
	b.busy(false)
	b.tells(changed(next, 64, 64))
	b.asks(18, 90, api.OK)
	b.m.Cancel()
	b.steps(false, api.ErrIdle)
	b.tells(changed(next, 64, 64))
	b.reads(3, page(1))
}

// TestNew: of no store there is no mover; of a store there is one for any number of sectors, that asks for nothing, and has no move under way.
func TestNew(t *testing.T) {
	b := ready(t)
	for _, sectors := range []int{0, 1, -1, 81, 82, 127, 128, 129, api.MaxSectors, math.MaxInt, math.MinInt} {
		if relog.New(nil, sectors) != nil {
			t.Errorf("New(nil, %d) is a mover", sectors)
		}
		b.quiet("New", func() {
			b.has(sectors)
			b.busy(false)
			b.steps(false, api.ErrIdle)
			b.m.Cancel()
			b.busy(false)
		})
	}
}

// TestSectors: a log may be asked to where so many sectors have it, however many the disk has.
func TestSectors(t *testing.T) {
	b := ready(t)
	for _, c := range []struct {
		sectors, most int // the longest log at 18; 0: none
	}{
		{math.MinInt, 0}, {-128, 0}, {-1, 0}, {0, 0}, {1, 0}, {18, 0}, {64, 0}, {81, 0},
		{82, 64}, {83, 65}, {100, 82}, {127, 109}, {128, 110}, {129, 111}, {200, 182},
		{api.MaxSectors, api.MaxSectors - 18}, {math.MaxInt, api.MaxNumber},
	} {
		b.has(c.sectors)
		b.asks(18, c.most+1, api.ErrArg)
		if c.most == 0 {
			b.asks(18, 64, api.ErrArg)
			b.asks(18, 110, api.ErrArg)
			continue
		}
		b.asks(18, c.most, api.OK)
	}
}

// TestFewerSectors: to where fewer sectors than the disk's have it the log goes.
func TestFewerSectors(t *testing.T) {
	b := ready(t)
	b.has(90)
	b.asks(18, 73, api.ErrArg)
	b.asks(26, 64, api.OK)
	b.steps(false, api.OK)
	b.steps(true, api.OK)
	if x := b.s.Super(); x.Start != 26 || x.Len != 64 {
		t.Errorf("the log is at %d, %d long", x.Start, x.Len)
	}
}

// TestMoreSectors: to where the disk ends ahead of it the log does not go: that is the Switch's to tell, each time.
func TestMoreSectors(t *testing.T) {
	b := ready(t)
	b.has(200)
	b.asks(65, 64, api.OK)
	b.steps(false, api.OK)
	b.quiet("Step", func() {
		b.steps(false, api.ErrArg)
		b.steps(false, api.ErrArg)
	})
	b.asks(64, 64, api.ErrBusy)
	b.m.Cancel()
	b.asks(64, 64, api.OK)
	b.steps(true, api.OK)
}

// farOff are places to which no log of a small store may go.
func farOff() [][2]int {
	return [][2]int{
		{17, 64}, {18, 63}, {65, 64}, {18, 111}, {64, 65}, {2, 64}, {0, 64}, {-1, 64}, {0, 0}, {18, 0}, {18, -1}, {18, -64}, {128, 64}, {127, 1},
		{math.MaxInt, 64}, {18, math.MaxInt}, {math.MaxInt, math.MaxInt}, {math.MinInt, 64}, {18, math.MinInt}, {math.MinInt, math.MinInt},
		{math.MinInt, math.MaxInt}, {math.MaxInt, math.MinInt}, {math.MaxInt - 10, 64}, {api.MaxNumber, api.MaxNumber}, {1 << 32, 64}, {18, 1 << 32}, {1 << 62, 1 << 62},
	}
}

// near are places to which the log of a small store may go, where it is already among them.
func near() [][2]int { return [][2]int{{18, 64}, {18, 110}, {64, 64}, {20, 70}, {19, 109}, {63, 65}} }

// TestAsk: a log may be asked to where it may be, whatever the store has under way; the disk is not asked.
func TestAsk(t *testing.T) {
	for _, ready := range []func(t *testing.T) *bench{
		small, ready,
		func(t *testing.T) *bench { b := small(t); b.writes(4, 2); return b },
		func(t *testing.T) *bench { b := ready(t); b.writes(4, 2); return b },
	} {
		b := ready(t)
		b.quiet("Ask", func() {
			for _, c := range farOff() {
				b.asks(c[0], c[1], api.ErrArg)
			}
			for _, c := range near() {
				b.asks(c[0], c[1], api.OK)
				b.m.Cancel()
			}
		})
	}
}

// TestAskBusy: while a move is under way none is asked for, wherever to; it goes on to where it was to go.
func TestAskBusy(t *testing.T) {
	b := ready(t)
	refused := func() {
		t.Helper()
		b.quiet("Ask", func() {
			for _, c := range append(farOff(), near()...) {
				b.asks(c[0], c[1], api.ErrBusy)
			}
		})
	}
	b.asks(40, 66, api.OK)
	refused()
	b.steps(false, api.OK)
	refused()
	x := b.s.Super()
	b.steps(true, api.OK)
	b.tells(changed(x, 40, 66))
	for _, c := range farOff() {
		b.asks(c[0], c[1], api.ErrArg)
	}
	b.steps(false, api.ErrIdle)
	b.asks(18, 64, api.OK)
	refused()
}

// TestSamePlace: to where the log is already it may be asked, too: it is begun once more there.
func TestSamePlace(t *testing.T) {
	b := small(t)
	b.asks(18, 64, api.OK)
	b.steps(true, api.OK)
	b.tells(changed(first(), 18, 64))
	b.commits(3, 1)
	b.asks(18, 64, api.OK)
	b.steps(false, api.OK)
	x := b.s.Super()
	b.steps(true, api.OK)
	b.tells(changed(x, 18, 64))
	b.reads(3, page(1))
	b.commits(4, 2)
	b.is("Sync", b.s.Sync(), api.OK)
	b.d.Crash(nil)
	b.opens()
	b.reads(3, page(1))
	b.reads(4, page(2))
}

// TestShorter: a log may be asked to be shorter than where its head stands: it begins anew.
func TestShorter(t *testing.T) {
	b := small(t)
	b.asks(18, 110, api.OK)
	b.steps(true, api.OK)
	for range 50 {
		b.commits(3, 1)
	}
	b.is("Checkpoint", b.s.Checkpoint(), api.OK)
	x := b.s.Super()
	if x.Head != 100 {
		t.Fatalf("the head stands at %d", x.Head)
	}
	b.asks(18, 64, api.OK)
	b.steps(true, api.OK)
	b.tells(changed(x, 18, 64))
	b.reads(3, page(1))
}

// numbered is a small store whose superblock has this Gen and Epoch.
func numbered(t *testing.T, gen, epoch int) *bench {
	t.Helper()
	b := small(t)
	x := first()
	x.Gen, x.Epoch = gen-1, epoch-1
	b.is("Save", super.Save(b.d, b.table, x), api.OK)
	b.opens()
	x.Gen, x.Epoch = gen, epoch
	b.tells(x)
	return b
}

// TestAskNumbers: with a Gen or an Epoch at its end there is no move; with one less there is the last one.
func TestAskNumbers(t *testing.T) {
	for _, c := range [][2]int{{api.MaxNumber, 5}, {5, api.MaxNumber}, {api.MaxNumber, api.MaxNumber}, {api.MaxNumber, api.MaxNumber - 1}, {api.MaxNumber - 1, api.MaxNumber}} {
		b := numbered(t, c[0], c[1])
		for _, to := range near() {
			b.asks(to[0], to[1], api.ErrArg)
		}
	}
	for _, c := range [][2]int{{api.MaxNumber - 1, 5}, {5, api.MaxNumber - 1}, {api.MaxNumber - 1, api.MaxNumber - 1}} {
		b := numbered(t, c[0], c[1])
		x := b.s.Super()
		b.asks(17, 64, api.ErrArg)
		b.asks(64, 64, api.OK)
		b.steps(true, api.OK)
		b.tells(changed(x, 64, 64))
		b.asks(18, 64, api.ErrArg)
	}
}

// TestAskNow: it is the superblock that the store has when it is asked that tells.
func TestAskNow(t *testing.T) {
	b := numbered(t, api.MaxNumber-1, 5)
	b.commits(3, 1)
	b.asks(64, 64, api.OK)
	b.m.Cancel()
	b.is("Checkpoint", b.s.Checkpoint(), api.OK)
	b.asks(64, 64, api.ErrArg)
	b.steps(false, api.ErrIdle)
}

// TestCancel: no move is under way any more, and nothing else has happened; what a step did ahead of it stays.
func TestCancel(t *testing.T) {
	b := ready(t)
	b.quiet("Cancel", func() {
		b.m.Cancel()
		b.busy(false)
		b.steps(false, api.ErrIdle)
		b.asks(64, 64, api.OK)
		b.m.Cancel()
		b.busy(false)
		b.m.Cancel()
		b.busy(false)
		b.steps(false, api.ErrIdle)
		b.asks(17, 64, api.ErrArg)
		b.asks(64, 64, api.OK)
	})
	b.steps(false, api.OK)
	next := first()
	next.Gen, next.Head, next.Seq = 4, 2, 2
	b.quiet("Cancel", func() {
		b.m.Cancel()
		b.busy(false)
		b.steps(false, api.ErrIdle)
		b.asks(20, 70, api.OK)
	})
	b.tells(next)
	b.steps(true, api.OK)
	b.tells(changed(next, 20, 70))
	b.reads(3, page(1))
	b.m.Cancel()
	b.busy(false)
	b.tells(changed(next, 20, 70))
}

// TestCancelTransaction: a transaction that is under way is none of the move's.
func TestCancelTransaction(t *testing.T) {
	b := ready(t)
	b.asks(64, 64, api.OK)
	b.writes(4, 2)
	b.m.Cancel()
	b.is("Commit", b.s.Commit(), api.OK)
	b.tells(first(), 3, 4)
	b.reads(4, page(2))
}

// TestTwoMovers: of one store each mover has a move of its own, and tells of that alone.
func TestTwoMovers(t *testing.T) {
	b := ready(t)
	one := b.m
	b.asks(64, 64, api.OK)
	b.has(128)
	b.busy(false)
	b.steps(false, api.ErrIdle)
	b.asks(20, 70, api.OK)
	b.steps(false, api.OK)
	x := b.s.Super()
	b.steps(true, api.OK)
	b.tells(changed(x, 20, 70))
	b.m = one
	b.busy(true)
	b.steps(true, api.OK)
	b.tells(changed(changed(x, 20, 70), 64, 64))
}
