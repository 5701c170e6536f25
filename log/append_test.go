package log_test

import (
	"bytes"
	"reflect"
	"testing"

	"polder/api"
	"polder/log"
)

// TestAppendBytes: a record's sectors lie from the tail on, round the ring's end, as the chapter's words have them, and all else stays.
func TestAppendBytes(t *testing.T) {
	for _, head := range []int{0, 1, 20, 23, 24, 25, 60, 61, 62, 63} {
		for _, count := range []int{1, 2, 3, 39, 40} {
			b := laid(t, 100)
			s := sample(head)
			b.is("Write", b.d.Write(0, bytes.Repeat([]byte{7}, 100*api.SectorSize), true), api.OK)
			before, ring := b.all(), b.ring(s, head)
			l := b.begins(s)
			b.appends(l, images(count, 1), api.OK)
			b.tells(l, 63-count, (head+1+count)%64, 6)
			record := b.recordBytes(1, 5, images(count, 1))
			if got := b.ring(s, head); !bytes.Equal(got, append(record, ring[len(record):]...)) {
				t.Errorf("%d images at %d are not written as they are", count, head)
			}
			after := b.all()
			if !bytes.Equal(after[:18*256], before[:18*256]) || !bytes.Equal(after[82*256:], before[82*256:]) {
				t.Errorf("%d images at %d: more than the log changes", count, head)
			}
			b.opens(s, []api.Record{{Seq: 5, Images: images(count, 1)}})
		}
	}
}

// TestAppendWrites: it is one Write, but two where the ring's end lies within the record, ahead of its first image or of its last one, too; no flush, no read, and nothing with FUA.
func TestAppendWrites(t *testing.T) {
	for _, c := range []struct{ head, count, writes int }{
		{0, 1, 1}, {0, 40, 1}, {61, 1, 1}, {62, 1, 1}, {63, 1, 2}, {22, 40, 1}, {23, 40, 1}, {24, 40, 2}, {63, 40, 2}, {60, 3, 1}, {61, 3, 2}, {62, 3, 2}, {63, 3, 2},
	} {
		for kind, count := range map[int]int{api.FailRead: 0, api.FailWrite: c.writes, api.FailFlush: 0} {
			b := laid(t, 100)
			l := b.begins(sample(c.head))
			b.asks("Append", kind, count, func() { b.appends(l, images(c.count, 1), api.OK) })
		}
		b := laid(t, 100)
		b.appends(b.begins(sample(c.head)), images(c.count, 1), api.OK)
		if got := len(b.d.Dirty()); got != 1+c.count {
			t.Errorf("%d images at %d: %d sectors are dirty", c.count, c.head, got)
		}
		b.d.Crash(nil)
		if !bytes.Equal(b.all(), make([]byte, 100*256)) {
			t.Errorf("%d images at %d: some persist without a flush", c.count, c.head)
		}
	}
}

// TestAppendEdges: at the ring's end, within the head's and the last image's sector of a record and behind them, one record behind the other, each is found.
func TestAppendEdges(t *testing.T) {
	for head := range 64 {
		b := laid(t, 82)
		s := sample(head)
		l := b.begins(s)
		var want []api.Record
		taken := 0
		for i, count := range []int{1, 5, 2, 1, 40, 9} {
			b.appends(l, images(count, byte(i)), api.OK)
			taken += 1 + count
			want = append(want, api.Record{Seq: 5 + i, Images: images(count, byte(i))})
			b.tells(l, 64-taken, (head+taken)%64, 6+i)
			b.tells(b.opens(s, want), 64-taken, (head+taken)%64, 6+i)
		}
		b.tells(l, 0, head, 11)
		b.appends(l, images(1, 0), api.ErrFull)
		b.opens(s, want)
	}
}

// TestAppendMayNot: what may not be written is refused, changes nothing, and takes no Seq.
func TestAppendMayNot(t *testing.T) {
	with := func(spoil func(x *api.Image)) api.Image {
		x := image(7, 7)
		spoil(&x)
		return x
	}
	bad := []api.Image{
		{},
		with(func(x *api.Image) { x.Number = -1 }),
		with(func(x *api.Image) { x.Number = 1024 }),
		with(func(x *api.Image) { x.Number = -1 << 63 }),
		with(func(x *api.Image) { x.Number = 1<<63 - 1 }),
		with(func(x *api.Image) { x.Page.Kind = 0 }),
		with(func(x *api.Image) { x.Page.Kind = 6 }),
		with(func(x *api.Image) { x.Page.Kind = -1 }),
		with(func(x *api.Image) { x.Page.Body = nil }),
		with(func(x *api.Image) { x.Page.Body = make([]byte, 239) }),
		with(func(x *api.Image) { x.Page.Body = make([]byte, 241) }),
	}
	b := laid(t, 100)
	l := b.begins(sample(3))
	refused := func(x []api.Image, want api.Errno) {
		t.Helper()
		b.leaves("Append", func() {
			b.asks("Append", api.FailRead, 0, func() { b.appends(l, x, want) })
		})
		b.tells(l, 64, 3, 5)
	}
	for _, x := range bad {
		refused([]api.Image{x}, api.ErrArg)
		refused([]api.Image{x, image(1, 1)}, api.ErrArg)
		refused(append(images(39, 1), x), api.ErrArg)
		refused(append(images(40, 1), x), api.ErrTooBig)
	}
	refused(nil, api.ErrArg)
	refused([]api.Image{}, api.ErrArg)
	for _, count := range []int{41, 42, 64, 1000} {
		refused(make([]api.Image, count), api.ErrTooBig)
	}
	for _, number := range []int{0, 1, 8, 16, 1023} {
		refused([]api.Image{image(number, 1), image(number, 1)}, api.ErrArg)
		refused([]api.Image{image(number, 1), image(2, 1), image(number, 2)}, api.ErrArg)
		refused(append([]api.Image{image(number, 1)}, append(images(38, 1)[1:], image(number, 1))...), api.ErrArg)
	}
	b.asks("Append", api.FailWrite, 0, func() { b.appends(l, []api.Image{image(1, 1), image(1, 2)}, api.ErrArg) })
	b.appends(l, images(40, 1), api.OK)
	b.opens(sample(3), []api.Record{{Seq: 5, Images: images(40, 1)}})
}

// TestAppendNumbers: pages of any number and kind go, beyond the superblock's Pages, too.
func TestAppendNumbers(t *testing.T) {
	b := laid(t, 100)
	l := b.begins(sample(0))
	var want []api.Record
	for i, number := range []int{0, 15, 16, 17, 255, 256, 1023} {
		x := image(number, byte(i))
		x.Page.Kind = 1 + i%5
		b.appends(l, []api.Image{x}, api.OK)
		want = append(want, api.Record{Seq: 5 + i, Images: []api.Image{x}})
	}
	b.opens(sample(0), want)
}

// TestAppendRoom: a record that takes just Room fits; one that takes a sector more does not, and changes nothing.
func TestAppendRoom(t *testing.T) {
	for _, head := range []int{0, 30, 63} {
		for room := range 42 {
			b := laid(t, 100)
			s := sample(head)
			l := b.begins(s)
			for left := 64 - room; left > 0; {
				one := min(left, 20)
				if left-one == 1 {
					one--
				}
				b.appends(l, images(one-1, 1), api.OK)
				left -= one
			}
			place, seq := l.Tail()
			b.tells(l, room, (head+64-room)%64, seq)
			if room <= 40 {
				b.leaves("Append", func() { b.appends(l, images(max(room, 1), 1), api.ErrFull) })
				b.asks("Append", api.FailWrite, 0, func() { b.appends(l, images(max(room, 1), 1), api.ErrFull) })
				b.tells(l, room, place, seq)
			}
			b.appends(l, nil, api.ErrArg)
			b.appends(l, images(41, 1), api.ErrTooBig)
			if room > 1 {
				b.appends(l, images(room-1, 1), api.OK)
				b.tells(l, 0, head, seq+1)
			}
			b.appends(l, images(1, 1), api.ErrFull)
			b.appends(l, nil, api.ErrArg)
			b.appends(l, images(41, 1), api.ErrTooBig)
		}
	}
}

// TestAppendLastNumbers: an Epoch and a Seq up to what images have room for go; behind them it is full, until the end of the numbers and of Drops.
func TestAppendLastNumbers(t *testing.T) {
	for _, epoch := range []int{0, 1<<32 - 2, 1<<32 - 1, 1 << 32, 1 << 40} {
		for _, seq := range []int{0, 1<<40 - 2, 1<<40 - 1, 1 << 40} {
			b := laid(t, 100)
			s := sample(9)
			s.Epoch, s.Seq = epoch, seq
			l := b.begins(s)
			var want []api.Record
			for next := seq; next < seq+3; next++ {
				b.appends(l, nil, api.ErrArg)
				b.appends(l, images(41, 1), api.ErrTooBig)
				if epoch > 1<<32-1 || next > 1<<40-1 {
					b.leaves("Append", func() { b.appends(l, images(1, 1), api.ErrFull) })
					l.Drop()
					b.leaves("Append", func() { b.appends(l, images(1, 1), api.ErrFull) })
					b.tells(l, 64, 9+2*len(want), next)
					break
				}
				b.appends(l, images(1, 1), api.OK)
				want = append(want, api.Record{Seq: next, Images: images(1, 1)})
				b.tells(l, 64-2*len(want), 9+2*len(want), next+1)
			}
			b.opens(s, want)
		}
	}
}

// TestAppendFailsAtLastSeq: a Seq that a failed Append has had is not given again, the last one neither.
func TestAppendFailsAtLastSeq(t *testing.T) {
	b := laid(t, 100)
	s := sample(0)
	s.Seq = 1<<40 - 1
	l := b.begins(s)
	b.is("Fail", b.d.Fail(api.FailWrite, 1), api.OK)
	b.appends(l, images(1, 1), api.ErrWrite)
	b.tells(l, 0, 0, 1<<40)
	l.Drop()
	b.tells(l, 64, 0, 1<<40)
	b.appends(l, images(1, 1), api.ErrFull)
}

// TestAppendKeepsNothing: what is handed in is not changed, and what becomes of it later changes no record; what Open answers is nobody else's.
func TestAppendKeepsNothing(t *testing.T) {
	b := laid(t, 100)
	s := sample(60)
	l := b.begins(s)
	room := append(images(5, 1), image(1, 99), image(2, 99))
	given := room[:3]
	b.appends(l, given, api.OK)
	if !reflect.DeepEqual(room, append(images(5, 1), image(1, 99), image(2, 99))) {
		t.Error("Append changes what is handed in")
	}
	want := []api.Record{{Seq: 5, Images: images(3, 1)}}
	for i := range given {
		given[i].Page.Body[i] = 77
		given[i].Number = 0
	}
	b.opens(s, want)
	_, one, _ := log.Open(b.d, b.table, s)
	for _, x := range one[0].Images {
		clear(x.Page.Body[:cap(x.Page.Body)])
	}
	clear(one[0].Images[:cap(one[0].Images)])
	clear(one[:cap(one)])
	b.opens(s, want)
}

// TestAppendFails: at each Write that it comes to a failure is ErrWrite; the tail's place stays, the Seq does not, and nothing goes any more until Drop.
func TestAppendFails(t *testing.T) {
	for _, c := range []struct{ head, count, write, there int }{
		{0, 1, 1, 0}, {10, 40, 1, 0}, {60, 3, 1, 0}, {61, 3, 1, 0}, {61, 3, 2, 3}, {63, 1, 1, 0}, {63, 1, 2, 1}, {63, 40, 2, 1}, {24, 40, 2, 40},
	} {
		for _, byCut := range []bool{false, true} {
			b := laid(t, 100)
			s := sample((c.head + 62) % 64)
			l := b.begins(s)
			b.appends(l, images(1, 1), api.OK)
			b.is("Flush", b.d.Flush(), api.OK)
			if byCut {
				b.is("Cut", b.d.Cut(c.write-1), api.OK)
			} else {
				b.is("Fail", b.d.Fail(api.FailWrite, c.write), api.OK)
			}
			b.appends(l, images(c.count, 50), api.ErrWrite)
			b.tells(l, 0, c.head, 7)
			if got := len(b.d.Dirty()); got != c.there {
				t.Errorf("write %d of %d images at %d fails: %d sectors are dirty", c.write, c.count, c.head, got)
			}
			first := []api.Record{{Seq: 5, Images: images(1, 1)}}
			b.tells(b.opens(s, first), 62, c.head, 6)
			if byCut {
				b.appends(l, images(1, 60), api.ErrFull)
				b.d.Crash([]int{1, 1, 1, 1, 1, 1, 1, 1})
			}
			b.brokenTillDrop(l, c.head)
			b.opens(s, first)
			s.Head, s.Seq = c.head, 7
			b.opens(s, []api.Record{{Seq: 7, Images: images(1, 70)}})
		}
	}
}

// brokenTillDrop asks a log that broke for what is refused, drops it, and appends.
func (b bench) brokenTillDrop(l *log.Log, place int) {
	b.Helper()
	b.leaves("Append", func() {
		b.appends(l, images(1, 60), api.ErrFull)
		b.appends(l, images(40, 60), api.ErrFull)
		b.appends(l, nil, api.ErrArg)
		b.appends(l, []api.Image{image(1, 1), image(1, 1)}, api.ErrArg)
		b.appends(l, images(41, 60), api.ErrTooBig)
	})
	b.asks("Append", api.FailWrite, 0, func() { b.appends(l, images(1, 60), api.ErrFull) })
	b.tells(l, 0, place, 7)
	l.Drop()
	b.tells(l, 64, place, 7)
	b.appends(l, images(1, 70), api.OK)
	b.tells(l, 62, (place+2)%64, 8)
}

// TestAppendFailsOnceMore: a write that fails behind another failure takes one Seq more.
func TestAppendFailsOnceMore(t *testing.T) {
	b := laid(t, 100)
	l := b.begins(sample(63))
	for i := range 5 {
		b.is("Fail", b.d.Fail(api.FailWrite, 1+i%2), api.OK)
		b.appends(l, images(2, byte(i)), api.ErrWrite)
		b.tells(l, 0, 63, 6+i)
		l.Drop()
		b.tells(l, 64, 63, 6+i)
	}
	b.appends(l, images(2, 9), api.OK)
	b.tells(l, 61, 2, 11)
	b.opens(sample(63), nil)
	s := sample(63)
	s.Seq = 10
	b.opens(s, []api.Record{{Seq: 10, Images: images(2, 9)}})
}
