package log_test

import (
	"bytes"
	"testing"

	"polder/api"
	"polder/codec"
)

// reads asks how many reads Open comes to: each of these that fails is ErrRead, the next one isn't its own.
func (b bench) reads(s api.Super, count int, want []api.Record) {
	b.Helper()
	b.leaves("Open", func() {
		for n := 1; n <= count; n++ {
			b.is("Fail", b.d.Fail(api.FailRead, n), api.OK)
			b.openFails(s, api.ErrRead)
		}
		b.asks("Open", api.FailRead, count, func() { b.opens(s, want) })
	})
}

// three is a ring with records of 1, 3 and 2 images, which take 9 sectors.
func three(t *testing.T, s api.Super) (bench, []api.Record) {
	t.Helper()
	b := laid(t, 100)
	l := b.begins(s)
	var want []api.Record
	for i, count := range []int{1, 3, 2} {
		b.appends(l, images(count, byte(10*i)), api.OK)
		want = append(want, api.Record{Seq: s.Seq + i, Images: images(count, byte(10*i))})
	}
	b.is("Flush", b.d.Flush(), api.OK)
	return b, want
}

// TestOpenReads: each sector is read by a Read of its own, and one behind the last record, wherever the ring's end lies.
func TestOpenReads(t *testing.T) {
	for head := range 64 {
		s := sample(head)
		empty := laid(t, 100)
		empty.reads(s, 1, nil)
		b, want := three(t, s)
		b.reads(s, 10, want)
		b.tells(b.opens(s, want), 55, (head+9)%64, 8)
		later := s
		later.Head, later.Seq = (head+2)%64, 6
		b.reads(later, 8, want[1:])
		b.tells(b.opens(later, want[1:]), 57, (head+9)%64, 8)
	}
}

// TestOpenAsksNoWrite: it writes and flushes nothing, and goes on a disk that is cut.
func TestOpenAsksNoWrite(t *testing.T) {
	b, want := three(t, sample(60))
	b.asks("Open", api.FailFlush, 0, func() { b.opens(sample(60), want) })
	b.is("Cut", b.d.Cut(0), api.OK)
	b.leaves("Open", func() { b.opens(sample(60), want) })
	b.d.Crash(nil)
	b.asks("Open", api.FailWrite, 0, func() { b.opens(sample(60), want) })
}

// TestOpenFull: where no sector of Len is left nothing more is read, even if the next record seems to stand there.
func TestOpenFull(t *testing.T) {
	for _, head := range []int{0, 1, 62, 63} {
		b := laid(t, 100)
		s := sample(head)
		l := b.begins(s)
		var want []api.Record
		for i, count := range []int{40, 20, 1} {
			b.appends(l, images(count, byte(i)), api.OK)
			want = append(want, api.Record{Seq: 5 + i, Images: images(count, byte(i))})
		}
		b.reads(s, 64, want)
		b.tells(b.opens(s, want), 0, head, 8)
		b.appends(b.opens(s, want), images(1, 1), api.ErrFull)
	}
}

// TestOpenLastSector: with one sector left that one is read; no record fits there.
func TestOpenLastSector(t *testing.T) {
	for _, head := range []int{0, 1, 62, 63} {
		b := laid(t, 100)
		s := sample(head)
		l := b.begins(s)
		b.appends(l, images(40, 1), api.OK)
		b.appends(l, images(21, 2), api.OK)
		want := []api.Record{{Seq: 5, Images: images(40, 1)}, {Seq: 6, Images: images(21, 2)}}
		b.reads(s, 64, want)
		b.lay(s, (head+63)%64, b.recordBytes(1, 7, images(1, 3))[:256])
		b.reads(s, 64, want)
		b.tells(b.opens(s, want), 1, (head+63)%64, 7)
	}
}

// TestOpenTooLong: a head that takes a sector more than are left ends the records, and its images are not read; one that takes just those is followed.
func TestOpenTooLong(t *testing.T) {
	for left := 2; left <= 41; left++ {
		b := laid(t, 100)
		s := sample(50)
		l := b.begins(s)
		var want []api.Record
		first := (64 - left) / 2
		for i, sectors := range []int{first, 64 - left - first} {
			b.appends(l, images(sectors-1, byte(i)), api.OK)
			want = append(want, api.Record{Seq: 5 + i, Images: images(sectors-1, byte(i))})
		}
		b.is("Flush", b.d.Flush(), api.OK)
		place := (50 + 64 - left) % 64
		b.tells(l, left, place, 7)
		if left <= 40 {
			b.lay(s, place, b.recordBytes(1, 7, images(left, 3))[:left*256])
			b.reads(s, 65-left, want)
			b.tells(b.opens(s, want), left, place, 7)
		}
		just := images(left-1, 4)
		b.lay(s, place, b.recordBytes(1, 7, just))
		want = append(want, api.Record{Seq: 7, Images: just})
		b.reads(s, 64, want)
		b.tells(b.opens(s, want), 0, 50, 8)
	}
}

// taken is how many sectors records have.
func (b bench) taken(l []api.Record) int {
	n := 0
	for _, r := range l {
		n += 1 + len(r.Images)
	}
	return n
}

// TestOpenOtherHeads: a sector that is no head, or one of another Epoch or Seq, ends the records; behind it nothing is read.
func TestOpenOtherHeads(t *testing.T) {
	s := sample(57)
	b, want := three(t, s)
	second, third := 59, 63
	x := images(2, 20)
	super, _ := codec.PutSuper(b.table, s)
	page, _ := codec.PutPage(b.table, x[0])
	spoilt := b.recordBytes(1, 7, x)[:256]
	spoilt[255] ^= 1
	for _, sector := range [][]byte{
		make([]byte, 256),
		bytes.Repeat([]byte{255}, 256),
		b.recordBytes(0, 7, x)[:256],
		b.recordBytes(2, 7, x)[:256],
		b.recordBytes(1<<32-1, 7, x)[:256],
		b.recordBytes(1, 6, x)[:256],
		b.recordBytes(1, 5, x)[:256],
		b.recordBytes(1, 8, x)[:256],
		b.recordBytes(1, 0, x)[:256],
		b.recordBytes(1, 1<<40-1, x)[:256],
		b.recordBytes(1, 7, x)[256:512],
		super,
		page,
		spoilt,
	} {
		if len(sector) != 256 {
			t.Fatal("no sector")
		}
		b.lay(s, third, sector)
		b.reads(s, 7, want[:2])
		b.tells(b.opens(s, want[:2]), 58, third, 7)
	}
	b.lay(s, third, b.recordBytes(1, 7, x)[:256])
	b.reads(s, 10, want)
	b.lay(s, second, make([]byte, 256))
	b.reads(s, 3, want[:1])
	b.tells(b.opens(s, want[:1]), 62, second, 6)
	b.lay(s, 57, b.recordBytes(2, 5, images(1, 0))[:256])
	b.reads(s, 1, nil)
	b.tells(b.opens(s, nil), 64, 57, 5)
}

// TestOpenOtherImages: an image that is none, or one of another Epoch, Seq or Number, ends the records, even if the sum is right; all of the record's sectors are read, none behind it.
func TestOpenOtherImages(t *testing.T) {
	s := sample(59)
	x := images(3, 10)
	other := func(b bench, epoch, seq int, y api.Image) []byte {
		return b.recordBytes(epoch, seq, []api.Image{y})[256:]
	}
	for i := range x {
		b, want := three(t, s)
		page, _ := codec.PutPage(b.table, x[i])
		spoilt := other(b, 1, 6, x[i])
		spoilt[100] ^= 4
		for k, sector := range [][]byte{
			other(b, 0, 6, x[i]),
			other(b, 2, 6, x[i]),
			other(b, 1, 5, x[i]),
			other(b, 1, 7, x[i]),
			other(b, 1, 6, image(x[i].Number-5, byte(10+i))),
			other(b, 1, 6, x[(i+1)%3]),
			make([]byte, 256),
			b.recordBytes(1, 6, x)[:256],
			page,
			spoilt,
		} {
			record := b.recordBytes(1, 6, x)
			copy(record[(1+i)*256:], sector)
			b.lay(s, 61, record)
			b.reads(s, 6, want[:1])
			h := api.Head{Epoch: 1, Seq: 6, Pages: []int{x[0].Number, x[1].Number, x[2].Number}, Sum: b.table.Sum(record[256:])}
			head, e := codec.PutHead(b.table, h)
			b.is("PutHead", e, api.OK)
			b.lay(s, 61, head)
			b.reads(s, 6, want[:1])
			b.tells(b.opens(s, want[:1]), 62, 61, 6)
			if t.Failed() {
				t.Fatalf("image %d, other sector %d", i, k)
			}
		}
		b.lay(s, 61, b.recordBytes(1, 6, x))
		b.reads(s, 10, want)
	}
}

// TestOpenSum: a sum that is not right ends the records, even if each image is as it must be by itself; all of the record's sectors are read.
func TestOpenSum(t *testing.T) {
	s := sample(61)
	b, want := three(t, s)
	x := images(3, 10)
	record := b.recordBytes(1, 6, x)
	h := api.Head{Epoch: 1, Seq: 6, Pages: []int{x[0].Number, x[1].Number, x[2].Number}}
	right := b.table.Sum(record[256:])
	for _, sum := range []uint32{0, right + 1, right - 1, ^right, b.table.Sum(record[256:1023]), b.table.Sum(record[257:]), 1<<32 - 1} {
		h.Sum = sum
		head, e := codec.PutHead(b.table, h)
		b.is("PutHead", e, api.OK)
		b.lay(s, 63, head)
		b.reads(s, 6, want[:1])
	}
	h.Sum = right
	head, _ := codec.PutHead(b.table, h)
	b.lay(s, 63, head)
	b.reads(s, 10, want)
}

// TestOpenTwice: a head that names one page twice is refused by Append alone; Open takes it as it stands.
func TestOpenTwice(t *testing.T) {
	b := laid(t, 100)
	x := []api.Image{image(7, 1), image(7, 2)}
	b.lay(sample(3), 3, b.recordBytes(1, 5, x))
	b.tells(b.opens(sample(3), []api.Record{{Seq: 5, Images: x}}), 61, 6, 6)
}

// TestOpenGreatNumbers: records up to the last Seq are found; with an Epoch or a Seq that no image has room for a head alone is none.
func TestOpenGreatNumbers(t *testing.T) {
	s := sample(63)
	s.Epoch, s.Seq = 1<<32-1, 1<<40-2
	b := laid(t, 100)
	b.lay(s, 63, append(b.recordBytes(s.Epoch, s.Seq, images(2, 1)), b.recordBytes(s.Epoch, s.Seq+1, images(1, 1))...))
	want := []api.Record{{Seq: 1<<40 - 2, Images: images(2, 1)}, {Seq: 1<<40 - 1, Images: images(1, 1)}}
	b.reads(s, 6, want)
	b.tells(b.opens(s, want), 59, 4, 1<<40)
	for _, c := range [][2]int{{1 << 32, 5}, {1<<32 + 1, 5}, {1, 1 << 40}, {1 << 40, 1 << 40}} {
		s.Epoch, s.Seq = c[0], c[1]
		head, e := codec.PutHead(b.table, api.Head{Epoch: c[0], Seq: c[1], Pages: []int{7}, Sum: b.table.Sum(b.recordBytes(1, 5, []api.Image{image(7, 1)})[256:])})
		b.is("PutHead", e, api.OK)
		b.lay(s, 63, append(head, b.recordBytes(1, 5, []api.Image{image(7, 1)})[256:]...))
		b.reads(s, 2, nil)
		b.tells(b.opens(s, nil), 64, 63, c[1])
	}
}

// TestOpenOldEpoch: a ring full of an earlier Epoch's records has none of this one's, at whatever place one looks, and their sectors are no new record's.
func TestOpenOldEpoch(t *testing.T) {
	old := sample(0)
	b := laid(t, 100)
	l := b.begins(old)
	for l.Room() > 0 {
		b.appends(l, images(min(3, l.Room()-1), 1), api.OK)
	}
	b.is("Flush", b.d.Flush(), api.OK)
	for head := range 64 {
		for seq := 5; seq < 22; seq++ {
			s := sample(head)
			s.Epoch, s.Seq = 2, seq
			b.reads(s, 1, nil)
		}
	}
	s := sample(0)
	s.Epoch = 2
	fresh := b.begins(s)
	b.appends(fresh, images(3, 9), api.OK)
	b.reads(s, 5, []api.Record{{Seq: 5, Images: images(3, 9)}})
	b.d.Crash([]int{1, 1})
	b.reads(s, 4, nil)
	b.d.Crash(nil)
	b.lay(s, 0, b.recordBytes(2, 5, images(3, 1))[:256])
	b.reads(s, 4, nil)
}

// TestOpenGoesOn: a log that was opened goes on behind its records.
func TestOpenGoesOn(t *testing.T) {
	s := sample(58)
	b, want := three(t, s)
	l := b.opens(s, want)
	b.appends(l, images(40, 9), api.OK)
	b.tells(l, 14, 44, 9)
	b.appends(l, images(14, 9), api.ErrFull)
	b.appends(l, images(13, 9), api.OK)
	b.tells(l, 0, 58, 10)
	want = append(want, api.Record{Seq: 8, Images: images(40, 9)}, api.Record{Seq: 9, Images: images(13, 9)})
	b.reads(s, 64, want)
	l.Drop()
	b.appends(l, images(1, 7), api.OK)
	b.reads(s, 1, nil)
	s.Seq = 10
	b.opens(s, []api.Record{{Seq: 10, Images: images(1, 7)}})
}
