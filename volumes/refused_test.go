package volumes_test

import (
	"bytes"
	"slices"
	"strconv"
	"testing"

	"polder/api"
)

// attempt is a call; what it answers beside an error is asked here.
type attempt struct {
	name string
	call func() api.Errno
}

// called is how a call is told.
func called(name string, numbers ...int) string {
	for _, n := range numbers {
		name += " " + strconv.Itoa(n)
	}
	return name
}

// creating is a Create.
func (b *bench) creating(size, quota int) attempt {
	return attempt{called("Create", size, quota), func() api.Errno {
		b.Helper()
		return b.noID(b.v.Create(size, quota))
	}}
}

// snapshotting is a Snapshot.
func (b *bench) snapshotting(id int) attempt {
	return attempt{called("Snapshot", id), func() api.Errno {
		b.Helper()
		return b.noID(b.v.Snapshot(id))
	}}
}

// noID asks that there is none beside an error.
func (b *bench) noID(id int, e api.Errno) api.Errno {
	b.Helper()
	if (id == 0) != (e != api.OK) {
		b.Errorf("the ID %d beside %v", id, e)
	}
	return e
}

// deleting is a Delete.
func (b *bench) deleting(id int) attempt {
	return attempt{called("Delete", id), func() api.Errno { return b.v.Delete(id) }}
}

// resizing is a Resize.
func (b *bench) resizing(id, size int) attempt {
	return attempt{called("Resize", id, size), func() api.Errno { return b.v.Resize(id, size) }}
}

// reading is a Read.
func (b *bench) reading(id, at, count int) attempt {
	return attempt{called("Read", id, at, count), func() api.Errno {
		b.Helper()
		data, e := b.v.Read(id, at, count)
		if e != api.OK && len(data) > 0 || e == api.OK && len(data) != 64*count {
			b.Errorf("%v beside %v", data, e)
		}
		return e
	}}
}

// writing is a Write of which nothing is to be done, where it is refused.
func (b *bench) writing(id, at int, data []byte, sync bool) attempt {
	return attempt{called("Write", id, at, len(data)), func() api.Errno {
		b.Helper()
		before := bytes.Clone(data)
		many, e := b.v.Write(id, at, data, sync)
		if e != api.OK && many != 0 || e == api.OK && many*64 != len(data) || !bytes.Equal(data, before) {
			b.Errorf("Write(%d, %d, %d bytes, %v) = %d, %v", id, at, len(data), sync, many, e)
		}
		return e
	}}
}

// unmapping is an Unmap of which nothing is to be done, where it is refused.
func (b *bench) unmapping(id, at, count int) attempt {
	return attempt{called("Unmap", id, at, count), func() api.Errno {
		b.Helper()
		many, e := b.v.Unmap(id, at, count)
		if e != api.OK && many != 0 || e == api.OK && many != count {
			b.Errorf("Unmap(%d, %d, %d) = %d, %v", id, at, count, many, e)
		}
		return e
	}}
}

// refused asks for a call that is refused: all is as it was, and the disk was not asked to write or flush.
func (b *bench) refused(a attempt, want api.Errno) {
	b.Helper()
	was := b.state()
	b.is("Fail", b.d.Fail(api.FailFlush, 1), api.OK)
	b.is(a.name, a.call(), want)
	b.is("Flush, behind a refused "+a.name, b.d.Flush(), api.ErrFlush)
	b.stays(was)
}

// each are all calls of a volume.
func (b *bench) each(id int) []attempt {
	return []attempt{b.snapshotting(id), b.deleting(id), b.resizing(id, 5), b.reading(id, 0, 1), b.writing(id, 0, fill(1), false),
		b.writing(id, 0, fill(1), true), b.unmapping(id, 0, 1)}
}

// eachWrong are calls of a volume of 10 blocks that would be refused for something else, too.
func (b *bench) eachWrong(id int) []attempt {
	l := []attempt{b.resizing(id, 0), b.resizing(id, 1<<20+1), b.resizing(id, 1)}
	for _, at := range []int{least, -1, 10, most} {
		for _, count := range []int{least, -1, 0, 1, 9, most} {
			l = append(l, b.reading(id, at, count), b.unmapping(id, at, count))
		}
		for _, size := range []int{0, 63, 64, 65, 576} {
			l = append(l, b.writing(id, at, make([]byte, size), size%2 == 0))
		}
	}
	return l
}

// TestNoVolume: an ID that no live volume has, whatever else is wrong.
func TestNoVolume(t *testing.T) {
	b := laid(t, 100)
	ids := func(ids ...int) {
		t.Helper()
		for _, id := range ids {
			for _, a := range append(b.each(id), b.eachWrong(id)...) {
				b.refused(a, api.ErrVolume)
			}
		}
	}
	ids(least, -1, 0, 1, 2, 1<<30, most)
	for range 3 {
		b.creates(10, 10)
	}
	b.writes(2, 3, blocks(1, 3), false)
	b.snapshots(2)
	b.deletes(2)
	ids(least, -2, -1, 0, 2, 5, 6, 1<<30, most)
	b.deletes(1, 3, 4)
	ids(0, 1, 2, 3, 4, 5)
	for range 4 { // no place is left
		b.creates(10, 10)
	}
	ids(0, 1, 2, 3, 4, 9)
	b.readsAll()
}

// TestCreateArgs: sizes and quotas at their edges, and beyond.
func TestCreateArgs(t *testing.T) {
	b := laid(t, 64)
	for _, size := range []int{least, -1, 0, 1<<20 + 1, 1 << 40, most} {
		for _, quota := range []int{least, -1, 0, 1, 1 << 20, 1<<20 + 1, most} {
			b.refused(b.creating(size, quota), api.ErrArg)
		}
	}
	for _, size := range []int{1, 2, 1 << 20} {
		for _, quota := range []int{least, -1, 1<<20 + 1, 1 << 40, most} {
			b.refused(b.creating(size, quota), api.ErrArg)
		}
	}
	for _, s := range [][2]int{{1, 0}, {1, 1 << 20}, {1 << 20, 0}, {1 << 20, 1 << 20}, {10, 3}, {3, 10}} {
		id := b.creates(s[0], s[1])
		b.readsVolume(id)
		if s[1] == 0 {
			b.refused(b.writing(id, 0, fill(1), false), api.ErrQuota)
		} else {
			b.writes(id, s[0]-1, fill(id), false)
		}
	}
	b.readsAll()
}

// TestPlaces: with all of them taken, by dying volumes too, there is no other one.
func TestPlaces(t *testing.T) {
	b := laid(t, 100)
	for i := range 8 {
		b.creates(10, 10)
		b.writes(1, i, fill(i), false)
	}
	full := func() {
		t.Helper()
		b.refused(b.creating(10, 10), api.ErrVolumes)
		b.refused(b.creating(0, 10), api.ErrArg)
		b.refused(b.creating(10, -1), api.ErrArg)
		b.refused(b.snapshotting(1), api.ErrVolumes)
		b.refused(b.snapshotting(99), api.ErrVolume)
	}
	full()
	b.deletes(3, 8)
	full()
	b.refused(b.snapshotting(3), api.ErrVolume)
	b.deletes(2, 4, 5, 6, 7)
	full()
	b.vacates(5, 2, 8)
	for _, at := range []int{1, 4, 7} {
		id := b.creates(10, 10)
		if at == 4 {
			b.deletes(id)
			b.vacates(id)
			id = b.snapshots(1)
		}
		if b.v.Catalogue().Volumes[at].ID != id {
			t.Errorf("the place %d has not the volume %d: %v", at, id, b.v.Catalogue())
		}
	}
	full()
	b.lists(1, 9, 11, 12)
	b.readsAll()
}

// vacates frees the places of dying volumes of which nothing was written.
func (b *bench) vacates(ids ...int) {
	b.Helper()
	c := b.v.Catalogue()
	for i, x := range c.Volumes {
		if slices.Contains(ids, x.ID) {
			c.Volumes[i], b.places[i] = api.Volume{}, place{}
		}
	}
	b.changes(c)
}

// changes changes the catalogue, in a transaction of its own.
func (b *bench) changes(c api.Catalogue) {
	b.Helper()
	b.begins()
	b.is("Change", b.v.Change(c), api.OK)
	b.next, b.stack = c.Next, slices.Clone(c.Stack)
	b.sound()
}

// TestLastID: with Next at its end there is no other volume, if there is a place.
func TestLastID(t *testing.T) {
	b := laid(t, 100)
	for range 2 {
		b.creates(10, 10)
	}
	b.writes(1, 3, fill(1), false)
	c := b.v.Catalogue()
	c.Next = 1<<30 - 2
	b.changes(c)
	if id := b.creates(10, 10); id != 1<<30-2 {
		t.Errorf("the ID is %d", id)
	}
	if id := b.snapshots(1); id != 1<<30-1 {
		t.Errorf("the ID is %d", id)
	}
	last := func() {
		t.Helper()
		b.refused(b.creating(10, 10), api.ErrFull)
		b.refused(b.creating(0, 10), api.ErrArg)
		b.refused(b.creating(10, 1<<20+1), api.ErrArg)
		b.refused(b.snapshotting(1), api.ErrFull)
		b.refused(b.snapshotting(1<<30-1), api.ErrFull)
		b.refused(b.snapshotting(1<<30), api.ErrVolume)
	}
	last()
	b.syncs()
	b.opens()
	last()
	b.readsAll()
	c = b.v.Catalogue()
	for i := range c.Volumes {
		if c.Volumes[i].State == api.VolumeNone {
			c.Volumes[i] = api.Volume{ID: 10 + i, State: api.VolumeDying, Size: 10}
			b.places[i].Volume = c.Volumes[i]
		}
	}
	b.changes(c)
	b.refused(b.creating(10, 10), api.ErrVolumes)
	b.refused(b.snapshotting(1), api.ErrVolumes)
	b.refused(b.snapshotting(13), api.ErrVolume)
	b.refused(b.creating(0, 10), api.ErrArg)
}

// TestResize: sizes that may not be, and those about the highest block that has a page.
func TestResize(t *testing.T) {
	for _, high := range []int{0, 1, 7, 8, 100, 1<<20 - 2} {
		b := laid(t, 64)
		b.creates(1<<20, 100)
		b.creates(50, 100)
		b.writes(1, high, fill(1), false)
		if high > 20 {
			b.writes(1, 5, blocks(1, 8), false)
		}
		for range 2 {
			for _, size := range []int{least, -1, 0, 1<<20 + 1, most} {
				b.refused(b.resizing(1, size), api.ErrArg)
			}
			for _, size := range []int{high, high - 1, high / 2, 1} {
				if size >= 1 && size <= high {
					b.refused(b.resizing(1, size), api.ErrInUse)
				}
			}
			b.resizes(1, 1<<20, high+2, high+1, high+1, high+2, 1<<20-1)
			b.readsAll()
			b.syncs()
			b.opens()
		}
		b.resizes(1, high+1)
		b.refused(b.reading(1, high+1, 1), api.ErrBlock)
		b.refused(b.writing(1, high+1, fill(1), false), api.ErrBlock)
		b.resizes(2, 1, 1<<20, 50)
		b.unmaps(1, high, 1)
		if high > 20 {
			b.refused(b.resizing(1, 12), api.ErrInUse)
			b.resizes(1, 13)
			continue
		}
		b.resizes(1, 1, 1<<20)
		b.readsAll()
	}
}

// TestResizeQuota: the size has nothing to do with the quota, nor with how much is mapped.
func TestResizeQuota(t *testing.T) {
	b := laid(t, 64)
	b.creates(3, 2)
	b.resizes(1, 1, 2, 1000)
	b.writes(1, 998, blocks(1, 2), false)
	b.refused(b.writing(1, 0, fill(1), false), api.ErrQuota)
	b.unmaps(1, 992, 8)
	b.resizes(1, 1)
	b.writes(1, 0, fill(4), false)
	b.readsAll()
}

// TestSpans: counts, data of all lengths, and blocks at a volume's ends and beyond.
func TestSpans(t *testing.T) {
	b := laid(t, 100)
	b.creates(20, 20)
	b.writes(1, 3, blocks(1, 8), false)
	ats := []int{least, least + 8, -9, -8, -1, 0, 3, 11, 12, 13, 19, 20, 21, 1 << 20, most - 8, most - 7, most - 1, most}
	for _, at := range ats {
		for _, count := range []int{least, -8, -1, 0, 9, 10, 16, 1 << 20, most - 19, most} {
			b.refused(b.reading(1, at, count), api.ErrArg)
			b.refused(b.unmapping(1, at, count), api.ErrArg)
		}
		for _, size := range []int{0, 1, 32, 63, 65, 96, 127, 129, 511, 513, 576, 577, 640, 1024, 4096} {
			b.refused(b.writing(1, at, make([]byte, size), size%2 == 0), api.ErrArg)
		}
		for count := 1; count <= 8; count++ {
			if at >= 0 && at <= 20-count {
				b.reads(1, at, count)
				b.writes(1, at, blocks(at+count, count), count%2 == 0)
				b.reads(1, at, count)
				b.unmaps(1, at, count)
				b.reads(1, at, count)
				b.writes(1, at, blocks(at, count), false)
				continue
			}
			b.refused(b.reading(1, at, count), api.ErrBlock)
			b.refused(b.unmapping(1, at, count), api.ErrBlock)
			b.refused(b.writing(1, at, blocks(1, count), count%2 == 0), api.ErrBlock)
		}
	}
	b.readsAll()
	b.refused(b.writing(1, 20, nil, true), api.ErrArg)
}

// TestSpansSmall: of a volume that has fewer blocks than a span.
func TestSpansSmall(t *testing.T) {
	for _, size := range []int{1, 2, 7, 8} {
		b := laid(t, 64)
		b.creates(size, size)
		for count := 1; count <= 8; count++ {
			for at := range 9 {
				if at+count <= size {
					b.writes(1, at, blocks(at, count), false)
					b.reads(1, at, count)
					continue
				}
				b.refused(b.reading(1, at, count), api.ErrBlock)
				b.refused(b.unmapping(1, at, count), api.ErrBlock)
				b.refused(b.writing(1, at, blocks(1, count), false), api.ErrBlock)
			}
		}
		b.readsAll()
	}
}
