package store_test

import (
	"bytes"
	"reflect"
	"slices"
	"testing"

	"polder/api"
	"polder/codec"
	"polder/crc"
	"polder/disk"
	"polder/store"
)

// bench is a disk in a test, with a table, and the store on it (nil where there is none yet).
type bench struct {
	*testing.T
	d     *disk.Disk
	table *crc.Table
	s     *store.Store
}

// laid is a new disk of so many sectors.
func laid(t *testing.T, sectors int) *bench {
	t.Helper()
	d, e := disk.New(sectors)
	if e != api.OK {
		t.Fatalf("disk.New(%d): %v", sectors, e)
	}
	return &bench{T: t, d: d, table: crc.New()}
}

// small is the store of the chapter's examples.
func small(t *testing.T) *bench {
	t.Helper()
	b := laid(t, 128)
	b.is("Format", store.Format(b.d, 16, 18, 64), api.OK)
	b.opens()
	return b
}

// wide is a store of more pages than a transaction may write.
func wide(t *testing.T) *bench {
	t.Helper()
	b := laid(t, 200)
	b.is("Format", store.Format(b.d, 64, 70, 100), api.OK)
	b.opens()
	return b
}

// first is the superblock of a small store that was opened once.
func first() api.Super {
	return api.Super{Gen: 3, Epoch: 2, Pages: 16, Start: 18, Len: 64, Head: 0, Seq: 1}
}

// opens opens the store.
func (b *bench) opens() {
	b.Helper()
	s, e := store.Open(b.d)
	if s == nil || e != api.OK {
		b.Fatalf("Open = %v, %v", s, e)
	}
	b.s = s
}

// openFails asks an Open that is refused.
func (b *bench) openFails(want api.Errno) {
	b.Helper()
	if s, e := store.Open(b.d); s != nil || e != want {
		b.Errorf("Open = %v, %v, not %v", s, e, want)
	}
}

// page is full of one byte, by which its kind goes, too.
func page(fill byte) api.Page {
	return api.Page{Kind: 1 + int(fill)%5, Body: bytes.Repeat([]byte{fill}, api.BodySize)}
}

// never is a page that was never written.
func never() api.Page { return api.Page{} }

// is asks what a call answered.
func (b *bench) is(call string, got, want api.Errno) {
	b.Helper()
	if got != want {
		b.Errorf("%s = %v, not %v", call, got, want)
	}
}

// same tells whether two pages are one; no Body and an empty one are.
func same(x, y api.Page) bool { return x.Kind == y.Kind && bytes.Equal(x.Body, y.Body) }

// reads asks what a page is.
func (b *bench) reads(p int, want api.Page) {
	b.Helper()
	if x, e := b.s.Read(p); e != api.OK || !same(x, want) {
		b.Errorf("Read(%d) = %d %x.., %v, not %d %x..", p, x.Kind, x.Body[:min(1, len(x.Body))], e, want.Kind, want.Body[:min(1, len(want.Body))])
	}
}

// readFails asks a Read that is refused.
func (b *bench) readFails(p int, want api.Errno) {
	b.Helper()
	if x, e := b.s.Read(p); e != want || !same(x, never()) {
		b.Errorf("Read(%d) = %v, %v, not %v", p, x, e, want)
	}
}

// writes writes pages, that begin with one number, in a transaction that it begins.
func (b *bench) writes(p int, fills ...byte) {
	b.Helper()
	b.is("Begin", b.s.Begin(), api.OK)
	for i, fill := range fills {
		b.is("Write", b.s.Write(p+i, page(fill)), api.OK)
	}
}

// commits does so, and ends the transaction.
func (b *bench) commits(p int, fills ...byte) {
	b.Helper()
	b.writes(p, fills...)
	b.is("Commit", b.s.Commit(), api.OK)
}

// idle asks that no transaction is under way.
func (b *bench) idle() {
	b.Helper()
	b.is("Write", b.s.Write(0, page(0)), api.ErrIdle)
	b.is("Commit", b.s.Commit(), api.ErrIdle)
}

// tells asks for the store's superblock and its dirty pages.
func (b *bench) tells(x api.Super, dirty ...int) {
	b.Helper()
	if got := b.s.Super(); got != x {
		b.Errorf("Super = %+v, not %+v", got, x)
	}
	if got := b.s.Dirty(); !slices.Equal(got, dirty) {
		b.Errorf("Dirty = %v, not %v", got, dirty)
	}
}

// all is the bytes of the whole disk.
func (b *bench) all() []byte {
	b.Helper()
	data, e := b.d.Read(0, b.d.Size())
	b.is("Read", e, api.OK)
	return data
}

// puts writes sectors to the disk, to stay.
func (b *bench) puts(at int, data []byte) {
	b.Helper()
	b.is("Write", b.d.Write(at, data, true), api.OK)
}

// pageSector is a page as it lies at home.
func (b *bench) pageSector(p int, x api.Page) []byte {
	b.Helper()
	sector, e := codec.PutPage(b.table, api.Image{Number: p, Page: x})
	b.is("PutPage", e, api.OK)
	return sector
}

// superSector is a superblock as it lies on the disk.
func (b *bench) superSector(x api.Super) []byte {
	b.Helper()
	sector, e := codec.PutSuper(b.table, x)
	b.is("PutSuper", e, api.OK)
	return sector
}

// record is a log's record of pages, the n-th of them with the n-th number, as chapter 5 has it.
func (b *bench) record(epoch, seq int, numbers []int, pages ...api.Page) []byte {
	b.Helper()
	var behind []byte
	for i, x := range pages {
		sector, e := codec.PutImage(b.table, epoch, seq, api.Image{Number: numbers[i], Page: x})
		b.is("PutImage", e, api.OK)
		behind = append(behind, sector...)
	}
	head, e := codec.PutHead(b.table, api.Head{Epoch: epoch, Seq: seq, Pages: numbers, Sum: b.table.Sum(behind)})
	b.is("PutHead", e, api.OK)
	return append(head, behind...)
}

// asks tells how many reads, writes or flushes a call comes to: with so many let by, the next one behind it fails.
func (b *bench) asks(what string, kind, count int, call func()) {
	b.Helper()
	b.is("Fail", b.d.Fail(kind, count+1), api.OK)
	call()
	var e, want api.Errno
	switch kind {
	case api.FailRead:
		_, e = b.d.Read(0, 1)
		want = api.ErrRead
	case api.FailWrite:
		e = b.d.Write(0, make([]byte, api.SectorSize), true)
		want = api.ErrWrite
	case api.FailFlush:
		e = b.d.Flush()
		want = api.ErrFlush
	}
	if e != want {
		b.Errorf("%s does not ask the disk %d times for %d", what, count, kind)
	}
}

// quiet asks that a call asks the disk for nothing, and so leaves it as it is.
func (b *bench) quiet(what string, call func()) {
	b.Helper()
	data, dirty := b.all(), b.d.Dirty()
	b.is("Fail", b.d.Fail(api.FailFlush, 1), api.OK)
	b.is("Fail", b.d.Fail(api.FailWrite, 1), api.OK)
	b.is("Fail", b.d.Fail(api.FailRead, 1), api.OK)
	call()
	if _, e := b.d.Read(0, 1); e != api.ErrRead {
		b.Errorf("%s reads", what)
	}
	if e := b.d.Write(0, make([]byte, api.SectorSize), false); e != api.ErrWrite {
		b.Errorf("%s writes", what)
	}
	if e := b.d.Flush(); e != api.ErrFlush {
		b.Errorf("%s flushes", what)
	}
	if !bytes.Equal(b.all(), data) || !slices.Equal(b.d.Dirty(), dirty) {
		b.Errorf("%s changes the disk", what)
	}
}

func TestExamples(t *testing.T) {
	b := small(t)
	x := page(7)
	b.tells(first())
	b.is("Write", b.s.Write(3, x), api.ErrIdle)
	b.is("Begin", b.s.Begin(), api.OK)
	b.is("Begin", b.s.Begin(), api.ErrBusy)
	b.is("Write", b.s.Write(16, x), api.ErrRange)
	b.is("Write", b.s.Write(3, api.Page{Body: x.Body}), api.ErrArg)
	b.is("Write", b.s.Write(3, x), api.OK)
	b.reads(3, x)
	b.s.Abort()
	b.reads(3, never())
	b.commits(3, 7)
	b.tells(first(), 3)
	b.d.Crash(nil)
	b.opens()
	b.reads(3, never())
	b.commits(3, 7)
	b.is("Sync", b.s.Sync(), api.OK)
	b.d.Crash(nil)
	b.opens()
	b.reads(3, x)
	next := b.s.Super()
	b.commits(3, 8)
	b.is("Checkpoint", b.s.Checkpoint(), api.OK)
	next.Gen++
	next.Head, next.Seq = 2, 2
	b.tells(next)
	b.is("Switch", b.s.Switch(20, 64), api.OK)
	b.is("Switch", b.s.Switch(17, 64), api.ErrArg)
	b.is("Switch", b.s.Switch(20, 63), api.ErrArg)
}

// TestOwners: what is handed in and what is told is its owner's: changed afterwards, in its spare room too, it changes nothing.
func TestOwners(t *testing.T) {
	b := small(t)
	room := bytes.Repeat([]byte{7}, 2*api.BodySize)
	x := page(7)
	x.Body = room[:api.BodySize]
	spoil := func(l []byte) {
		l = l[:cap(l)]
		for i := range l {
			l[i] = 99
		}
	}
	b.is("Begin", b.s.Begin(), api.OK)
	b.is("Write", b.s.Write(3, x), api.OK)
	if !bytes.Equal(room, bytes.Repeat([]byte{7}, 2*api.BodySize)) {
		t.Error("Write changes what is handed in")
	}
	spoil(room)
	spoilTold := func() {
		t.Helper()
		for range 2 {
			told, e := b.s.Read(3)
			if e != api.OK || !same(told, page(7)) {
				t.Errorf("Read = %v, %v", told, e)
			}
			spoil(told.Body)
		}
	}
	spoilTold()
	b.is("Commit", b.s.Commit(), api.OK)
	spoilTold()
	for range 2 {
		dirty := b.s.Dirty()
		if !slices.Equal(dirty, []int{3}) {
			t.Errorf("Dirty = %v", dirty)
		}
		dirty = dirty[:cap(dirty)]
		clear(dirty)
	}
	b.is("Sync", b.s.Sync(), api.OK)
	b.is("Checkpoint", b.s.Checkpoint(), api.OK)
	spoilTold()
	b.d.Crash(nil)
	b.opens()
	spoilTold()
}

// TestApart: two stores do not know of one another.
func TestApart(t *testing.T) {
	one, other := small(t), small(t)
	one.commits(3, 1, 2)
	one.writes(5, 3)
	other.reads(3, never())
	other.idle()
	other.tells(first())
	other.commits(4, 9)
	one.reads(4, page(2))
	other.reads(4, page(9))
}

// TestNeverWritten: pages that no transaction wrote were never written, whatever was aborted or refused, behind a checkpoint and behind a crash, too.
func TestNeverWritten(t *testing.T) {
	b := small(t)
	for p := range 16 {
		b.reads(p, never())
	}
	b.commits(3, 1)
	b.writes(5, 2)
	b.s.Abort()
	b.writes(6, 3)
	b.is("Fail", b.d.Fail(api.FailWrite, 1), api.OK)
	b.is("Commit", b.s.Commit(), api.ErrWrite)
	others := func() {
		t.Helper()
		for p := range 16 {
			if p != 3 {
				b.reads(p, never())
			}
		}
	}
	others()
	b.is("Checkpoint", b.s.Checkpoint(), api.OK)
	others()
	b.is("Switch", b.s.Switch(40, 70), api.OK)
	others()
	b.d.Crash(nil)
	b.opens()
	others()
	b.reads(3, page(1))
}

// TestZero: beside an error there is nothing; a page that was never written has no Body.
func TestZero(t *testing.T) {
	b := small(t)
	x, e := b.s.Read(0)
	if e != api.OK || !reflect.DeepEqual(x, api.Page{}) {
		t.Errorf("Read of a page that was never written = %v, %v", x, e)
	}
	if l := b.s.Dirty(); len(l) != 0 {
		t.Errorf("Dirty = %v", l)
	}
}
