package store_test

import (
	"bytes"
	"testing"

	"polder/api"
)

// TestUnderWay: one transaction is under way from Begin to Commit or Abort, and what needs one, or none, is refused.
func TestUnderWay(t *testing.T) {
	b := small(t)
	b.idle()
	b.s.Abort()
	b.idle()
	for _, end := range []func(){
		b.s.Abort,
		func() { b.is("Commit", b.s.Commit(), api.OK) },
	} {
		b.is("Begin", b.s.Begin(), api.OK)
		b.is("Write", b.s.Write(1, page(1)), api.OK)
		b.quiet("what is refused", func() {
			b.is("Begin", b.s.Begin(), api.ErrBusy)
			b.is("Sync", b.s.Sync(), api.ErrBusy)
			b.is("Checkpoint", b.s.Checkpoint(), api.ErrBusy)
			b.is("Switch", b.s.Switch(20, 64), api.ErrBusy)
			b.is("Switch", b.s.Switch(0, 0), api.ErrBusy)
		})
		b.tells(first())
		b.reads(1, page(1))
		end()
		b.idle()
	}
	b.tells(first(), 1)
}

// TestRefusedBegin: a Begin that is refused takes nothing from the transaction under way.
func TestRefusedBegin(t *testing.T) {
	b := small(t)
	b.writes(3, 1)
	b.is("Begin", b.s.Begin(), api.ErrBusy)
	b.reads(3, page(1))
	b.is("Commit", b.s.Commit(), api.OK)
	b.reads(3, page(1))
	b.tells(first(), 3)
}

// TestReadOrder: what the transaction wrote goes ahead of what is dirty, that ahead of what is at home, and neither is asked of the disk.
func TestReadOrder(t *testing.T) {
	b := small(t)
	b.commits(3, 1, 2, 3)
	b.is("Checkpoint", b.s.Checkpoint(), api.OK)
	b.commits(4, 12, 13)
	b.writes(5, 23)
	b.quiet("Read of pages in memory", func() {
		b.reads(4, page(12))
		b.reads(5, page(23))
	})
	b.asks("Read", api.FailRead, 2, func() {
		b.reads(3, page(1))
		b.reads(6, never())
	})
	b.s.Abort()
	b.reads(5, page(13))
	b.is("Checkpoint", b.s.Checkpoint(), api.OK)
	b.asks("Read", api.FailRead, 3, func() {
		b.reads(3, page(1))
		b.reads(4, page(12))
		b.reads(5, page(13))
	})
}

// TestReadRange: pages that there are not, with a transaction under way and with none.
func TestReadRange(t *testing.T) {
	b := small(t)
	for range 2 {
		b.reads(0, never())
		b.reads(15, never())
		b.quiet("Read", func() {
			for _, p := range []int{-1, 16, 17, 64, 125, 126, 1023, 1024, -1 << 63, 1<<63 - 1, 1<<63 - 3} {
				b.readFails(p, api.ErrRange)
			}
		})
		b.s.Begin()
	}
}

// TestReadHome: what is at home is a page that was never written, or the page of this number, or ErrSum; what can't be read is ErrRead.
func TestReadHome(t *testing.T) {
	b := small(t)
	b.is("Fail", b.d.Fail(api.FailRead, 1), api.OK)
	b.readFails(3, api.ErrRead)
	b.reads(3, never())
	sound := b.pageSector(3, page(9))
	b.puts(2+3, sound)
	b.reads(3, page(9))
	spoilt := bytes.Clone(sound)
	spoilt[100] ^= 1
	oneBit := make([]byte, api.SectorSize)
	oneBit[255] = 128
	for _, sector := range [][]byte{
		spoilt, oneBit, bytes.Repeat([]byte{7}, 256), b.pageSector(4, page(9)), b.superSector(first()), b.record(2, 1, []int{3}, page(9))[256:],
	} {
		b.puts(2+3, sector)
		b.readFails(3, api.ErrSum)
		b.is("Begin", b.s.Begin(), api.OK)
		b.readFails(3, api.ErrSum)
		b.s.Abort()
	}
	b.reads(2, never())
	b.reads(4, never())
	b.commits(3, 8)
	b.reads(3, page(8))
	b.is("Checkpoint", b.s.Checkpoint(), api.OK)
	b.reads(3, page(8))
}

// badPages are pages that may not be.
func badPages() []api.Page {
	with := func(kind, size int) api.Page { return api.Page{Kind: kind, Body: make([]byte, size)} }
	return []api.Page{
		{}, {Kind: 1}, with(0, 240), with(6, 240), with(-1, 240), with(257, 240), with(1<<40, 240),
		with(1, 239), with(1, 241), with(5, 239), with(5, 241), with(5, 0), with(0, 0),
	}
}

// TestWriteRefused: no transaction, no such page, a page that may not be, in that order; the transaction goes on as it was.
func TestWriteRefused(t *testing.T) {
	b := small(t)
	for _, p := range []int{-1, 3, 16} {
		b.is("Write", b.s.Write(p, page(1)), api.ErrIdle)
		b.is("Write", b.s.Write(p, api.Page{}), api.ErrIdle)
	}
	b.writes(3, 1)
	for _, p := range []int{-1, 16, 17, 1023, 1024, -1 << 63, 1<<63 - 1} {
		b.is("Write", b.s.Write(p, page(1)), api.ErrRange)
		b.is("Write", b.s.Write(p, api.Page{}), api.ErrRange)
	}
	for _, x := range badPages() {
		b.is("Write", b.s.Write(3, x), api.ErrArg)
		b.is("Write", b.s.Write(4, x), api.ErrArg)
	}
	b.reads(3, page(1))
	b.reads(4, never())
	b.is("Commit", b.s.Commit(), api.OK)
	b.tells(first(), 3)
}

// TestWriteMayBe: the first page and the last one, each kind, any body.
func TestWriteMayBe(t *testing.T) {
	b := small(t)
	bodies := [][]byte{make([]byte, 240), bytes.Repeat([]byte{255}, 240), page(3).Body}
	b.is("Begin", b.s.Begin(), api.OK)
	for kind := api.KindCatalogue; kind <= api.KindData; kind++ {
		for i, p := range []int{0, 15, kind} {
			x := api.Page{Kind: kind, Body: bodies[i]}
			b.is("Write", b.s.Write(p, x), api.OK)
			b.reads(p, x)
		}
	}
	b.is("Commit", b.s.Commit(), api.OK)
	b.tells(first(), 0, 1, 2, 3, 4, 5, 15)
	b.is("Checkpoint", b.s.Checkpoint(), api.OK)
	for kind := api.KindCatalogue; kind <= api.KindData; kind++ {
		b.reads(kind, api.Page{Kind: kind, Body: bodies[2]})
	}
	b.reads(0, api.Page{Kind: api.KindData, Body: bodies[0]})
	b.reads(15, api.Page{Kind: api.KindData, Body: bodies[1]})
}

// TestMostPages: a transaction writes 40 pages, and each of them as often as one likes, and no 41st one; what may not be is told ahead of that.
func TestMostPages(t *testing.T) {
	b := wide(t)
	was := b.s.Super()
	b.is("Begin", b.s.Begin(), api.OK)
	for i := range 40 {
		b.is("Write", b.s.Write(63-i, page(byte(i))), api.OK)
	}
	for range 2 {
		b.is("Write", b.s.Write(23, page(1)), api.ErrTooBig)
		b.is("Write", b.s.Write(0, page(1)), api.ErrTooBig)
		b.is("Write", b.s.Write(0, api.Page{}), api.ErrArg)
		b.is("Write", b.s.Write(64, page(1)), api.ErrRange)
		b.is("Write", b.s.Write(63, page(50)), api.OK)
		b.is("Write", b.s.Write(24, page(51)), api.OK)
	}
	b.reads(23, never())
	b.is("Commit", b.s.Commit(), api.OK)
	var dirty []int
	for p := 24; p < 64; p++ {
		dirty = append(dirty, p)
	}
	b.tells(was, dirty...)
	b.reads(23, never())
	b.reads(24, page(51))
	b.reads(25, page(38))
	b.reads(63, page(50))
	b.commits(0, 1)
	b.tells(was, append([]int{0}, dirty...)...)
	b.is("Sync", b.s.Sync(), api.OK)
	b.d.Crash(nil)
	b.opens()
	b.reads(0, page(1))
	b.reads(24, page(51))
	b.reads(62, page(1))
	b.reads(63, page(50))
}

// TestAbort: nothing was written, and nothing is asked of the disk.
func TestAbort(t *testing.T) {
	b := small(t)
	b.commits(3, 1)
	b.quiet("a transaction that is aborted", func() {
		b.writes(3, 2, 3)
		b.s.Abort()
		b.s.Abort()
	})
	b.idle()
	b.reads(3, page(1))
	b.reads(4, never())
	b.tells(first(), 3)
	b.is("Begin", b.s.Begin(), api.OK)
	b.reads(3, page(1))
	b.is("Commit", b.s.Commit(), api.OK)
	b.tells(first(), 3)
}

// TestCommitNothing: a transaction that wrote nothing is done, and nothing is asked of the disk, whatever the log's state.
func TestCommitNothing(t *testing.T) {
	b := small(t)
	nothing := func() {
		t.Helper()
		b.quiet("a Commit of nothing", func() {
			b.is("Begin", b.s.Begin(), api.OK)
			b.is("Commit", b.s.Commit(), api.OK)
			b.is("Begin", b.s.Begin(), api.OK)
			b.is("Write", b.s.Write(16, page(1)), api.ErrRange)
			b.is("Write", b.s.Write(0, api.Page{}), api.ErrArg)
			b.is("Commit", b.s.Commit(), api.OK)
		})
		b.idle()
	}
	nothing()
	b.tells(first())
	b.commits(3, 1)
	nothing()
	b.tells(first(), 3)
	b.writes(3, 2)
	b.is("Fail", b.d.Fail(api.FailWrite, 1), api.OK)
	b.is("Commit", b.s.Commit(), api.ErrWrite)
	nothing()
	b.tells(first(), 3)
}

// TestCommit: one record at the log's tail, its pages rising in whatever order they were written, and no flush; refused, the transaction has not happened, and none is under way.
func TestCommit(t *testing.T) {
	trace{
		ready: func() *bench {
			b := small(t)
			b.commits(3, 1)
			b.writes(9, 2)
			for _, p := range []int{3, 15, 9, 0, 4} {
				b.is("Write", b.s.Write(p, page(byte(10+p))), api.OK)
			}
			return b
		},
		call: func(b *bench) api.Errno { return b.s.Commit() },
		ops: func(b *bench) []op {
			pages := []api.Page{page(10), page(13), page(14), page(19), page(25)}
			return []op{{18 + 2, b.record(2, 2, []int{0, 3, 4, 9, 15}, pages...), false}}
		},
		refused: func(b *bench, done int) {
			b.idle()
			b.tells(first(), 3)
			b.reads(3, page(1))
			b.reads(9, never())
		},
	}.holds(t)
}

// TestCommitDone: behind a Commit its pages are dirty, and read as it wrote them, and none is under way; a crash takes them, unless they were synced.
func TestCommitDone(t *testing.T) {
	b := small(t)
	b.commits(9, 1, 2)
	b.commits(4, 3)
	b.commits(10, 4, 5)
	b.idle()
	b.tells(first(), 4, 9, 10, 11)
	for p, want := range map[int]api.Page{4: page(3), 9: page(1), 10: page(4), 11: page(5), 5: never()} {
		b.reads(p, want)
	}
	b.asks("Commit", api.FailRead, 0, func() { b.commits(1, 1) })
	b.asks("Commit", api.FailFlush, 0, func() { b.commits(1, 1) })
	b.d.Crash(nil)
	b.opens()
	for p := range 16 {
		b.reads(p, never())
	}
}

// TestCommitWraps: a record round the ring's end is two writes; where one of them fails the transaction has not happened, behind a crash neither, whatever persists.
func TestCommitWraps(t *testing.T) {
	ready := func() *bench {
		b := small(t)
		for range 31 {
			b.commits(3, 1)
		}
		b.is("Checkpoint", b.s.Checkpoint(), api.OK)
		b.writes(3, 2, 3, 4)
		return b
	}
	was := first()
	was.Gen, was.Head, was.Seq = 4, 62, 32
	trace{
		ready: ready,
		call:  func(b *bench) api.Errno { return b.s.Commit() },
		ops: func(b *bench) []op {
			record := b.record(2, 32, []int{3, 4, 5}, page(2), page(3), page(4))
			return []op{{18 + 62, record[:512], false}, {18, record[512:], false}}
		},
		refused: func(b *bench, done int) {
			b.idle()
			b.tells(was)
			b.reads(3, page(1))
			b.d.Crash([]int{1, 1, 1, 1})
			b.opens()
			b.reads(3, page(1))
			b.reads(4, never())
		},
	}.holds(t)
}
