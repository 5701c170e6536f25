package store_test

import (
	"bytes"
	"testing"

	"polder/api"
	"polder/store"
	"polder/super"
)

// full is a disk on which something stands everywhere.
func full(t *testing.T, sectors int) *bench {
	t.Helper()
	b := laid(t, sectors)
	b.puts(0, bytes.Repeat([]byte{7}, sectors*api.SectorSize))
	return b
}

// TestFormat: noughts go to each home, rising; they are durable ahead of the first superblock, and then the second one is saved.
func TestFormat(t *testing.T) {
	for _, c := range []struct{ sectors, pages, start, length int }{
		{128, 16, 18, 64}, {82, 16, 18, 64}, {128, 17, 19, 109}, {128, 16, 64, 64}, {128, 20, 25, 70},
	} {
		trace{
			ready:     func() *bench { return full(t, c.sectors) },
			call:      func(b *bench) api.Errno { return store.Format(b.d, c.pages, c.start, c.length) },
			flushTold: api.ErrFlush,
			ops: func(b *bench) []op {
				var ops []op
				for p := range c.pages {
					ops = append(ops, op{2 + p, make([]byte, api.SectorSize), false})
				}
				x := api.Super{Gen: 1, Epoch: 1, Pages: c.pages, Start: c.start, Len: c.length, Seq: 1}
				next := x
				next.Gen = 2
				return append(ops, flush(), b.saved(x), b.saved(next))
			},
		}.holds(t)
	}
}

// TestFormatWidest: the most pages on the greatest disk.
func TestFormatWidest(t *testing.T) {
	b := laid(t, api.MaxSectors)
	b.is("Format", store.Format(b.d, api.MaxPages, 1026, 3070), api.OK)
	b.opens()
	b.tells(api.Super{Gen: 3, Epoch: 2, Pages: 1024, Start: 1026, Len: 3070, Seq: 1})
	b.commits(1023, 9)
	b.is("Checkpoint", b.s.Checkpoint(), api.OK)
	b.d.Crash(nil)
	b.opens()
	b.reads(1023, page(9))
	b.reads(1022, never())
}

// TestFormatRefused: a store that may not be on the disk; nothing is asked of it.
func TestFormatRefused(t *testing.T) {
	b := full(t, 128)
	b.is("Format of no disk", store.Format(nil, 16, 18, 64), api.ErrArg)
	b.is("Format of no disk", store.Format(nil, 0, 0, 0), api.ErrArg)
	const most = 1<<63 - 1
	for _, c := range [][3]int{
		{15, 18, 64}, {0, 18, 64}, {-1, 18, 64}, {-most, 18, 64}, {1025, 1027, 64}, {most, 18, 64}, {16, 17, 64}, {17, 18, 64}, {16, -1, 64},
		{16, most, 64}, {16, 18, 63}, {16, 18, -1}, {16, 18, most}, {16, most, most}, {16, 18, 111}, {16, 65, 64}, {62, 65, 64}, {16, 128, 64}, {0, 0, 0},
	} {
		b.quiet("Format", func() {
			b.is("Format", store.Format(b.d, c[0], c[1], c[2]), api.ErrArg)
		})
	}
	tiny := laid(t, 81)
	tiny.is("Format of 81 sectors", store.Format(tiny.d, 16, 18, 64), api.ErrArg)
	one := laid(t, 1)
	one.is("Format of 1 sector", store.Format(one.d, 16, 18, 64), api.ErrArg)
}

// TestOpenRefused: no disk, one that is too small, one without a superblock, one that does not read: nothing is written.
func TestOpenRefused(t *testing.T) {
	if s, e := store.Open(nil); s != nil || e != api.ErrArg {
		t.Errorf("Open of no disk = %v, %v", s, e)
	}
	laid(t, 1).openFails(api.ErrArg)
	for _, b := range []*bench{laid(t, 2), laid(t, 128), full(t, 128)} {
		b.is("Cut", b.d.Cut(0), api.OK)
		b.openFails(api.ErrImage)
	}
	b := laid(t, 128)
	b.is("Format", store.Format(b.d, 16, 18, 64), api.OK)
	noughts := make([]byte, 2*api.SectorSize)
	b.puts(0, noughts)
	b.openFails(api.ErrImage)
}

// opened is a disk with two records in its log, of which the second has page 5 once more, ahead of an Open; its log's Head is the 5th place from the ring's end.
func opened(t *testing.T) *bench {
	t.Helper()
	b := laid(t, 128)
	b.is("Format", store.Format(b.d, 16, 18, 64), api.OK)
	b.puts(0, b.superSector(behind()))
	ring := append(b.record(2, 6, []int{5, 3}, page(1), page(2)), b.record(2, 7, []int{15, 5}, page(3), page(4))...)
	b.puts(18+59, ring[:5*api.SectorSize])
	b.puts(18, ring[5*api.SectorSize:])
	return b
}

// behind is the superblock of that disk.
func behind() api.Super {
	return api.Super{Gen: 8, Epoch: 2, Pages: 16, Start: 18, Len: 64, Head: 59, Seq: 6}
}

// TestOpen: each page of the log's records goes to its home, rising, as the last record has it; then the disk is flushed, and a log of the next Epoch is begun.
func TestOpen(t *testing.T) {
	next := api.Super{Gen: 9, Epoch: 3, Pages: 16, Start: 18, Len: 64, Head: 0, Seq: 1}
	trace{
		ready:     func() *bench { return opened(t) },
		call:      open,
		reads:     2 + 6 + 1,
		flushTold: api.ErrFlush,
		ops: func(b *bench) []op {
			return []op{b.home(3, 2), b.home(5, 4), b.home(15, 3), flush(), b.saved(next)}
		},
		refused: func(b *bench, done int) {
			b.opens()
			b.reads(5, page(4))
			b.tells(next)
		},
	}.holds(t)
	b := opened(t)
	b.opens()
	b.tells(next)
	for p, want := range map[int]api.Page{3: page(2), 5: page(4), 15: page(3), 0: never(), 14: never()} {
		b.reads(p, want)
	}
	b.idle()
}

// open is an Open as a trace's call.
func open(b *bench) api.Errno {
	s, e := store.Open(b.d)
	if (s == nil) != (e != api.OK) {
		b.Errorf("Open = %v, %v", s, e)
	}
	return e
}

// TestOpenEmpty: without records it is a flush and a superblock, and the log begins at its first place.
func TestOpenEmpty(t *testing.T) {
	next := api.Super{Gen: 9, Epoch: 3, Pages: 16, Start: 18, Len: 64, Head: 0, Seq: 1}
	ready := func() *bench {
		b := opened(t)
		b.puts(18+59, make([]byte, api.SectorSize))
		return b
	}
	trace{
		ready:     ready,
		call:      open,
		reads:     2 + 1,
		flushTold: api.ErrFlush,
		ops:       func(b *bench) []op { return []op{flush(), b.saved(next)} },
	}.holds(t)
	b := ready()
	b.opens()
	b.tells(next)
	b.commits(3, 9)
	if got := b.all()[18*256 : 20*256]; !bytes.Equal(got, b.record(3, 1, []int{3}, page(9))) {
		t.Error("the first record does not begin the log")
	}
}

// TestOpenLast: of a page that a record has twice the last one counts, too.
func TestOpenLast(t *testing.T) {
	b := opened(t)
	b.puts(18+1, b.record(2, 8, []int{4, 4, 3}, page(8), page(9), page(10)))
	b.opens()
	b.reads(4, page(9))
	b.reads(3, page(10))
	b.reads(5, page(4))
}

// TestOpenReads: where a sector can't be read there is no store, and nothing is written: neither of the superblocks, and none of the log.
func TestOpenReads(t *testing.T) {
	for n := 1; n <= 2+6+1; n++ {
		b := opened(t)
		b.is("Cut", b.d.Cut(0), api.OK)
		b.is("Fail", b.d.Fail(api.FailRead, n), api.OK)
		b.openFails(api.ErrRead)
	}
	b := opened(t)
	b.is("Fail", b.d.Fail(api.FailRead, 10), api.OK)
	b.opens()
}

// TestOpenNumbers: a Gen or an Epoch at its end leaves no room for the next one; that is told behind what can't be read, and nothing is written. One less does.
func TestOpenNumbers(t *testing.T) {
	const most = api.MaxNumber
	for _, c := range []struct {
		gen, epoch int
		want       api.Errno
	}{
		{most, 2, api.ErrFull}, {9, most, api.ErrFull}, {most, most, api.ErrFull}, {most - 1, 2, api.OK}, {10, most - 1, api.OK}, {most - 1, most - 1, api.OK},
	} {
		b := opened(t)
		x := behind()
		x.Gen, x.Epoch = c.gen, c.epoch
		b.is("Save", super.Save(b.d, b.table, x), api.OK)
		if c.want == api.OK {
			b.opens()
			x.Gen, x.Epoch, x.Head, x.Seq = c.gen+1, c.epoch+1, 0, 1
			b.tells(x)
			continue
		}
		b.is("Fail", b.d.Fail(api.FailRead, 3), api.OK)
		b.openFails(api.ErrRead)
		data := b.all()
		b.is("Cut", b.d.Cut(0), api.OK)
		b.openFails(c.want)
		if !bytes.Equal(b.all(), data) {
			t.Error("a refused Open changes the disk")
		}
	}
}

// TestOpenAgain: what was opened is opened once more, whether or not the power went, with a greater Gen and Epoch each time.
func TestOpenAgain(t *testing.T) {
	b := small(t)
	b.commits(3, 1, 2)
	b.is("Sync", b.s.Sync(), api.OK)
	want := first()
	for range 5 {
		b.opens()
		want.Gen++
		want.Epoch++
		b.tells(want)
		b.reads(3, page(1))
		b.reads(4, page(2))
		b.d.Crash(nil)
	}
}

// TestOpenSpoilt: a superblock that is spoilt gives way to the one ahead of it, from the first Open on.
func TestOpenSpoilt(t *testing.T) {
	b := laid(t, 128)
	b.is("Format", store.Format(b.d, 16, 18, 64), api.OK)
	b.puts(0, make([]byte, api.SectorSize))
	b.opens()
	x := first()
	x.Gen = 2
	b.tells(x)
}
