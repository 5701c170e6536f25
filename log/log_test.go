package log_test

import (
	"bytes"
	"reflect"
	"slices"
	"testing"

	"polder/api"
	"polder/codec"
	"polder/crc"
	"polder/disk"
	"polder/log"
)

// bench is a disk in a test, with a table.
type bench struct {
	*testing.T
	d     *disk.Disk
	table *crc.Table
}

// laid is a new disk of so many sectors.
func laid(t *testing.T, sectors int) bench {
	t.Helper()
	d, e := disk.New(sectors)
	if e != api.OK {
		t.Fatalf("disk.New(%d): %v", sectors, e)
	}
	return bench{t, d, crc.New()}
}

// sample is the superblock of the chapter's examples, with its log's Head elsewhere; it may be on a disk of 100 sectors.
func sample(head int) api.Super {
	return api.Super{Gen: 1, Epoch: 1, Pages: 16, Start: 18, Len: 64, Head: head, Seq: 5}
}

// image is a page full of one byte; its kind goes by its number, too.
func image(number int, fill byte) api.Image {
	return api.Image{Number: number, Page: api.Page{Kind: 1 + number%5, Body: bytes.Repeat([]byte{fill}, api.BodySize)}}
}

// images are so many, of numbers that fall, so that their order is not that of their numbers.
func images(count int, fill byte) []api.Image {
	var l []api.Image
	for i := range count {
		l = append(l, image(1023-i*7, fill+byte(i)))
	}
	return l
}

// copied is images with memory of their own.
func copied(l []api.Image) []api.Image {
	l = slices.Clone(l)
	for i := range l {
		l[i].Page.Body = bytes.Clone(l[i].Page.Body)
	}
	return l
}

// recordBytes are a record's sectors, one behind the other, as the chapter's words have them.
func (b bench) recordBytes(epoch, seq int, l []api.Image) []byte {
	b.Helper()
	var behind []byte
	h := api.Head{Epoch: epoch, Seq: seq}
	for _, x := range l {
		sector, e := codec.PutImage(b.table, epoch, seq, x)
		b.is("PutImage", e, api.OK)
		behind = append(behind, sector...)
		h.Pages = append(h.Pages, x.Number)
	}
	h.Sum = b.table.Sum(behind)
	head, e := codec.PutHead(b.table, h)
	b.is("PutHead", e, api.OK)
	return append(head, behind...)
}

// lay writes sectors to a ring past the log, from a place on, to stay.
func (b bench) lay(s api.Super, place int, data []byte) {
	b.Helper()
	for i := range len(data) / api.SectorSize {
		b.is("Write", b.d.Write(s.Start+(place+i)%s.Len, data[i*api.SectorSize:(i+1)*api.SectorSize], true), api.OK)
	}
}

// ring is the bytes of a log's sectors, from a place on, once round.
func (b bench) ring(s api.Super, place int) []byte {
	b.Helper()
	data, e := b.d.Read(s.Start, s.Len)
	b.is("Read", e, api.OK)
	return append(data[place*api.SectorSize:], data[:place*api.SectorSize]...)
}

// all is the bytes of the whole disk.
func (b bench) all() []byte {
	b.Helper()
	data, e := b.d.Read(0, b.d.Size())
	b.is("Read", e, api.OK)
	return data
}

// is asks what a call answered.
func (b bench) is(call string, got, want api.Errno) {
	b.Helper()
	if got != want {
		b.Errorf("%s = %v, not %v", call, got, want)
	}
}

// begins is a new log.
func (b bench) begins(s api.Super) *log.Log {
	b.Helper()
	l := log.New(b.d, b.table, s)
	if l == nil {
		b.Fatalf("New(%+v) is nil", s)
	}
	return l
}

// opens asks an Open that finds these records.
func (b bench) opens(s api.Super, want []api.Record) *log.Log {
	b.Helper()
	l, got, e := log.Open(b.d, b.table, s)
	if l == nil || e != api.OK {
		b.Fatalf("Open(%+v) = %v, %v", s, l, e)
	}
	if len(got) != len(want) || len(got) > 0 && !reflect.DeepEqual(got, want) {
		b.Fatalf("Open(%+v) finds %v, not %v", s, brief(got), brief(want))
	}
	return l
}

// openFails asks an Open that is refused.
func (b bench) openFails(s api.Super, want api.Errno) {
	b.Helper()
	if l, got, e := log.Open(b.d, b.table, s); l != nil || got != nil || e != want {
		b.Errorf("Open(%+v) = %v, %v, %v, not %v", s, l, brief(got), e, want)
	}
}

// brief is what of records is worth telling.
func brief(l []api.Record) [][]int {
	var told [][]int
	for _, r := range l {
		one := []int{r.Seq}
		for _, x := range r.Images {
			one = append(one, x.Number)
		}
		told = append(told, one)
	}
	return told
}

// appends asks an Append.
func (b bench) appends(l *log.Log, x []api.Image, want api.Errno) {
	b.Helper()
	if e := l.Append(x); e != want {
		b.Errorf("Append of %d = %v, not %v", len(x), e, want)
	}
}

// tells asks for a log's Room and Tail.
func (b bench) tells(l *log.Log, room, place, seq int) {
	b.Helper()
	if got := l.Room(); got != room {
		b.Errorf("Room = %d, not %d", got, room)
	}
	if p, q := l.Tail(); p != place || q != seq {
		b.Errorf("Tail = %d, %d, not %d, %d", p, q, place, seq)
	}
}

// leaves asks that a call leaves the disk as it is: what is read, and what is dirty.
func (b bench) leaves(what string, call func()) {
	b.Helper()
	data, dirty := b.all(), b.d.Dirty()
	call()
	if !bytes.Equal(b.all(), data) || !slices.Equal(b.d.Dirty(), dirty) {
		b.Errorf("%s changes the disk", what)
	}
}

// asks tells how many reads, writes or flushes a call comes to: with so many let by, the next one behind it fails.
func (b bench) asks(what string, kind, count int, call func()) {
	b.Helper()
	b.is("Fail", b.d.Fail(kind, count+1), api.OK)
	call()
	var e, want api.Errno
	switch kind {
	case api.FailRead:
		_, e = b.d.Read(0, 1)
		want = api.ErrRead
	case api.FailWrite:
		e = b.d.Write(0, make([]byte, api.SectorSize), true)
		want = api.ErrWrite
	case api.FailFlush:
		e = b.d.Flush()
		want = api.ErrFlush
	}
	if e != want {
		b.Errorf("%s does not ask the disk %d times for %d", what, count, kind)
	}
}

func TestExamples(t *testing.T) {
	s := sample(0)
	b := laid(t, 100)
	x, y := image(1, 1), image(2, 2)
	l := b.begins(s)
	b.tells(l, 64, 0, 5)
	b.appends(l, []api.Image{x, y}, api.OK)
	b.appends(l, []api.Image{x}, api.OK)
	b.tells(l, 59, 5, 7)
	both := []api.Record{{Seq: 5, Images: []api.Image{x, y}}, {Seq: 6, Images: []api.Image{x}}}
	b.tells(b.opens(s, both), 59, 5, 7)
	b.d.Crash(nil)
	b.tells(b.opens(s, nil), 64, 0, 5)
	b.appends(l, nil, api.ErrArg)
	b.appends(l, []api.Image{x, x}, api.ErrArg)
	b.appends(l, images(41, 0), api.ErrTooBig)
	b.tells(l, 59, 5, 7)
	b.is("Fail", b.d.Fail(api.FailWrite, 1), api.OK)
	b.appends(l, []api.Image{x}, api.ErrWrite)
	b.tells(l, 0, 5, 8)
	b.appends(l, []api.Image{x}, api.ErrFull)
	l.Drop()
	b.tells(l, 64, 5, 8)
	b.appends(l, []api.Image{x}, api.OK)
	b.tells(l, 62, 7, 9)
}

// badSupers are superblocks that may not be on a disk of 100 sectors.
func badSupers() []api.Super {
	var l []api.Super
	for _, spoil := range []func(s *api.Super){
		func(s *api.Super) { s.Gen = -1 },
		func(s *api.Super) { s.Epoch = 1<<40 + 1 },
		func(s *api.Super) { s.Pages = 15 },
		func(s *api.Super) { s.Start = 17 },
		func(s *api.Super) { s.Len = 63 },
		func(s *api.Super) { s.Len = 83 },
		func(s *api.Super) { s.Head = 64 },
		func(s *api.Super) { s.Head = -1 },
		func(s *api.Super) { s.Seq = -1 },
		func(s *api.Super) { s.Seq = 1<<40 + 1 },
		func(s *api.Super) { *s = api.Super{} },
	} {
		s := sample(0)
		spoil(&s)
		l = append(l, s)
	}
	return l
}

// TestArguments: without a disk, without a table, or with a superblock that may not be on the disk, there is no log, and nothing is read.
func TestArguments(t *testing.T) {
	b := laid(t, 100)
	refused := func(what string, d *disk.Disk, table *crc.Table, s api.Super) {
		t.Helper()
		b.asks(what, api.FailRead, 0, func() {
			if l, records, e := log.Open(d, table, s); l != nil || records != nil || e != api.ErrArg {
				t.Errorf("Open of %s = %v, %v, %v", what, l, records, e)
			}
			if l := log.New(d, table, s); l != nil {
				t.Errorf("New of %s = %v", what, l)
			}
		})
	}
	refused("nothing", nil, nil, api.Super{})
	refused("no disk", nil, b.table, sample(0))
	refused("no table", b.d, nil, sample(0))
	for _, s := range badSupers() {
		refused("a superblock that may not be there", b.d, b.table, s)
	}
	small := laid(t, 81)
	small.openFails(sample(0), api.ErrArg)
	if log.New(small.d, small.table, sample(0)) != nil {
		t.Error("New on 81 sectors is a log")
	}
	just := laid(t, 82)
	just.tells(just.begins(sample(63)), 64, 63, 5)
	just.tells(just.opens(sample(63), nil), 64, 63, 5)
}

// TestNew: it is empty, whatever lies in the ring; it asks nothing of the disk, and so goes where nothing can be read.
func TestNew(t *testing.T) {
	for _, head := range []int{0, 1, 31, 62, 63} {
		s := sample(head)
		b := laid(t, 100)
		b.lay(s, head, b.recordBytes(1, 5, images(3, 9)))
		b.leaves("New", func() {
			b.asks("New", api.FailRead, 0, func() { b.tells(b.begins(s), 64, head, 5) })
		})
		b.is("Cut", b.d.Cut(0), api.OK)
		b.tells(b.begins(s), 64, head, 5)
	}
	for _, seq := range []int{0, 1, 1<<40 - 1, 1 << 40} {
		b := laid(t, 4096)
		s := api.Super{Epoch: 1 << 40, Pages: 1024, Start: 1100, Len: 2996, Head: 2995, Seq: seq}
		b.tells(b.begins(s), 2996, 2995, seq)
	}
}

// TestDrop: no record takes anything any more, the tail stays, and nothing is asked of the disk.
func TestDrop(t *testing.T) {
	b := laid(t, 100)
	l := b.begins(sample(60))
	l.Drop()
	b.tells(l, 64, 60, 5)
	b.appends(l, images(2, 1), api.OK)
	b.appends(l, images(40, 1), api.OK)
	b.tells(l, 20, 40, 7)
	b.leaves("Drop", func() {
		b.asks("Drop", api.FailFlush, 0, l.Drop)
		b.asks("Drop", api.FailRead, 0, l.Drop)
	})
	b.asks("Drop", api.FailWrite, 0, l.Drop)
	b.tells(l, 64, 40, 7)
	b.appends(l, images(40, 1), api.OK)
	b.tells(l, 23, 17, 8)
	s := sample(40)
	s.Seq = 7
	opened := b.opens(s, []api.Record{{Seq: 7, Images: images(40, 1)}})
	b.tells(opened, 23, 17, 8)
	opened.Drop()
	b.tells(opened, 64, 17, 8)
}
