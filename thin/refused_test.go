package thin_test

import (
	"bytes"
	"slices"
	"testing"

	"polder/api"
	"polder/thin"
)

// attempt is a call; what it answers beside an error is asked here.
type attempt struct {
	name string
	call func() api.Errno
}

// reading is a Read.
func (b *bench) reading(v api.Volume, block int) attempt {
	return attempt{"Read", func() api.Errno {
		b.Helper()
		data, e := thin.Read(b.p, v, block)
		if e != api.OK && len(data) > 0 || e == api.OK && len(data) != 64 {
			b.Errorf("%v beside %v", data, e)
		}
		return e
	}}
}

// writing is a Write.
func (b *bench) writing(v api.Volume, block int, data []byte) attempt {
	return attempt{"Write", func() api.Errno {
		b.Helper()
		before := slices.Clone(data)
		got, e := thin.Write(b.p, v, block, data)
		if e != api.OK && got != (api.Volume{}) || !bytes.Equal(data, before) {
			b.Errorf("%v beside %v", got, e)
		}
		return e
	}}
}

// unmapping is an Unmap.
func (b *bench) unmapping(v api.Volume, block int) attempt {
	return attempt{"Unmap", func() api.Errno {
		b.Helper()
		got, e := thin.Unmap(b.p, v, block)
		if e != api.OK && got != (api.Volume{}) {
			b.Errorf("%v beside %v", got, e)
		}
		return e
	}}
}

// each are all calls of a block.
func (b *bench) each(v api.Volume, block int) []attempt {
	return []attempt{b.reading(v, block), b.writing(v, block, fill(1)), b.unmapping(v, block)}
}

// refused asks for a call that is refused in a transaction, and aborts it: all is as it was.
func (b *bench) refused(a attempt, want api.Errno) {
	b.Helper()
	was := b.state()
	b.begins()
	b.is(a.name, a.call(), want)
	b.p.Abort()
	b.stays(was)
}

// unchanged asks for a call that is refused in a transaction, by which nothing is changed: it goes on, and may be done.
func (b *bench) unchanged(a attempt, want api.Errno) {
	b.Helper()
	was := b.state()
	b.begins()
	b.is(a.name, a.call(), want)
	b.stays(was)
	b.commits()
	b.stays(was)
}

// TestNil: without a pool, whatever else is wrong.
func TestNil(t *testing.T) {
	b := &bench{T: t}
	x := b.volume(10, 2)
	for _, v := range []api.Volume{{}, {ID: -1, Root: -1}, x.Volume} {
		for _, block := range []int{least, -1, 0, 9, 10, most} {
			for _, a := range append(b.each(v, block), b.writing(v, block, nil), b.writing(v, block, make([]byte, 65))) {
				b.is(a.name, a.call(), api.ErrArg)
			}
		}
	}
}

// changed is a volume but for one of its fields.
func changed(v api.Volume, field, to int) api.Volume {
	*[]*int{&v.ID, &v.State, &v.Size, &v.Quota, &v.Root, &v.Mapped}[field] = to
	return v
}

// TestVolume: volumes that may be, and such as may not, by each field.
func TestVolume(t *testing.T) {
	b := laid(t, 64)
	x := b.volume(10, 4)
	b.writes(x, 0, fill(1))
	b.writes(x, 5, fill(2))
	for _, f := range []struct {
		field, from, to int
	}{{0, 1, 1 << 30}, {1, 1, 2}, {2, 1, 1 << 20}, {3, 0, 1 << 20}, {4, 0, 1023}, {5, 0, 1024}} {
		for _, n := range []int{least, -2, -1, 0, 1, 2, 3, 1023, 1024, 1025, 1 << 20, 1<<20 + 1, 1 << 30, 1<<30 + 1, 1 << 32, most} {
			v := changed(x.Volume, f.field, n)
			may := n >= f.from && n <= f.to
			for _, a := range b.each(v, 0) {
				want := api.ErrArg
				switch {
				case may && f.field == 4 && n > 63:
					want = api.ErrRange // there is no such page
				case may && f.field == 4 && n > 0 && n != x.Root:
					want = api.ErrImage // no node
				case may:
					want = api.OK
				}
				if want == api.ErrArg {
					b.unchanged(a, want)
					b.is(a.name, a.call(), want) // without a transaction, too
				} else {
					b.refused(a, want)
				}
			}
		}
	}
	b.sound()
	b.readsAll(x)
}

// TestEdges: volumes of each field at its end, with all that they come to.
func TestEdges(t *testing.T) {
	b := laid(t, 64)
	x := b.volume(1, 1)
	x.ID, x.State = 1<<30, api.VolumeDying
	b.writes(x, 0, fill(1))
	b.reads(x, 0)
	b.refused(b.reading(x.Volume, 1), api.ErrBlock)
	b.unmaps(x, 0)

	y := b.volume(1<<20, 1<<20)
	b.writes(y, 1<<20-1, fill(2))
	b.writes(y, 0, fill(3))
	b.readsAll(y)
	b.refused(b.reading(y.Volume, 1<<20), api.ErrBlock)
	b.does(func() {
		v := changed(y.Volume, 5, 1024) // as many as may be mapped: of a block that has a page it is no more
		if got, e := thin.Write(b.p, v, 0, fill(4)); got.Mapped != 1024 || e != api.OK {
			t.Errorf("Write = %v, %v", got, e)
		}
		y.m[0] = string(fill(4))
	})
	b.unmaps(y, 1<<20-1)
	b.readsAll(y)
}

// TestRoot: the greatest root that there may be.
func TestRoot(t *testing.T) {
	b := laid(t, 1024)
	b.fills(4)
	n := b.holds(dataPage(fill(7)))
	b.fills(1)
	x := b.volume(10, 10)
	x.Root, x.Mapped, x.m[3] = b.holds(nodePage(leaf(3, n))), 1, string(fill(7))
	delete(b.held, x.Root)
	delete(b.held, n)
	b.fills(20)
	if x.Root != 1023 {
		t.Fatalf("the root is %d", x.Root)
	}
	b.sound()
	b.readsAll(x)
	b.writes(x, 3, fill(8))
	b.writes(x, 4, fill(9))
	b.readsAll(x)
	b.unmaps(x, 4, 3)
}

// TestBlock: blocks beyond the size; those at its ends may be asked for.
func TestBlock(t *testing.T) {
	b := laid(t, 64)
	for _, size := range []int{1, 2, 10, 1 << 20} {
		x := b.volume(size, 9)
		b.writes(x, size-1, fill(size))
		for _, block := range []int{least, -1 << 32, -2, -1, size, size + 1, 1<<20 + 1, 1 << 32, most} {
			for _, a := range b.each(x.Volume, block) {
				b.unchanged(a, api.ErrBlock)
			}
		}
		for _, block := range []int{0, size - 1} {
			for _, a := range b.each(x.Volume, block) {
				b.refused(a, api.OK)
			}
		}
		b.unmaps(x, size-1)
	}
}

// TestBeyond: blocks that stand beyond a size that was made less are not told; with the size as it was they are.
func TestBeyond(t *testing.T) {
	b := laid(t, 64)
	x := b.volume(10, 9)
	b.writes(x, 7, fill(7))
	x.Size = 7
	for _, a := range b.each(x.Volume, 7) {
		b.unchanged(a, api.ErrBlock)
	}
	x.Size = 8
	b.readsAll(x)
}

// TestIdle: no transaction is under way.
func TestIdle(t *testing.T) {
	b := laid(t, 64)
	x := b.volume(10, 1)
	b.writes(x, 3, fill(1))
	was := b.state()
	for _, end := range []func(){func() {}, func() { b.begins(); b.p.Abort() }, func() { b.does(func() {}) }} {
		end()
		for block := range 10 {
			for _, size := range []int{0, 63, 64, 65} {
				b.is("Write", b.writing(x.Volume, block, make([]byte, size)).call(), api.ErrIdle)
			}
			b.is("Unmap", b.unmapping(x.Volume, block).call(), api.ErrIdle)
			b.is("Read", b.reading(x.Volume, block).call(), api.OK)
		}
	}
	b.stays(was)
}

// TestOrder: where two refusals, or more, are due.
func TestOrder(t *testing.T) {
	b := laid(t, 64)
	x := b.volume(10, 1)
	b.writes(x, 3, fill(1))
	b.fills(0)
	broken := changed(x.Volume, 4, 63) // a root that is no node
	for _, under := range []bool{false, true} {
		for _, v := range []api.Volume{changed(x.Volume, 0, 0), changed(broken, 1, 3), changed(x.Volume, 2, 0), changed(x.Volume, 3, -1), changed(x.Volume, 4, 1024), changed(broken, 5, 1025)} {
			for _, block := range []int{-1, 0, 3, 9, 10} {
				b.ordered(under, v, block, api.ErrArg, 0, 63, 64, 65)
			}
		}
		for _, block := range []int{-1, 10} {
			b.ordered(under, x.Volume, block, api.ErrBlock, 0, 63, 64, 65)
			b.ordered(under, broken, block, api.ErrBlock, 0, 63, 64, 65)
		}
	}
	for _, block := range []int{0, 3, 9} {
		b.ordered(false, x.Volume, block, api.ErrIdle, 0, 63, 64, 65)
		b.ordered(false, broken, block, api.ErrIdle, 0, 63, 64, 65)
		for _, size := range []int{0, 1, 63, 65, 128, 240} {
			b.unchanged(b.writing(x.Volume, block, make([]byte, size)), api.ErrArg)
			b.unchanged(b.writing(broken, block, make([]byte, size)), api.ErrArg)
		}
		b.unchanged(b.writing(broken, block, fill(1)), api.ErrImage) // ahead of ErrQuota, too
	}
	b.unchanged(b.writing(x.Volume, 0, fill(1)), api.ErrQuota) // ahead of ErrSpace
	x.Quota = 2
	b.unchanged(b.writing(x.Volume, 0, fill(1)), api.ErrSpace)
}

// ordered asks for a refusal by Write, with data of so many bytes, by Unmap, and, but for ErrIdle, by Read.
func (b *bench) ordered(under bool, v api.Volume, block int, want api.Errno, sizes ...int) {
	b.Helper()
	l := []attempt{b.unmapping(v, block)}
	for _, size := range sizes {
		l = append(l, b.writing(v, block, make([]byte, size)))
	}
	if want != api.ErrIdle {
		l = append(l, b.reading(v, block))
	}
	for _, a := range l {
		if under {
			b.unchanged(a, want)
		} else {
			b.is(a.name, a.call(), want)
		}
	}
}

// TestData: data of any length; that of a block alone is written.
func TestData(t *testing.T) {
	b := laid(t, 64)
	x := b.volume(10, 9)
	b.writes(x, 3, fill(1))
	for _, block := range []int{3, 4} {
		b.unchanged(b.writing(x.Volume, block, nil), api.ErrArg)
		for _, size := range []int{0, 1, 32, 63, 65, 66, 128, 240, 256, 4096} {
			b.unchanged(b.writing(x.Volume, block, make([]byte, size)), api.ErrArg)
		}
		b.writes(x, block, fill(2))
		b.reads(x, block)
	}
}

// TestQuota: a block that has no page gets one just below the quota; one that has may be written to at any.
func TestQuota(t *testing.T) {
	b := laid(t, 64)
	for _, quota := range []int{0, 1, 2, 5, 9} {
		x := b.volume(10, quota)
		for block := range quota {
			b.writes(x, block, fill(block))
		}
		for _, less := range []int{0, 1, 2} { // the quota may be set below what is mapped
			x.Quota = max(0, quota-less)
			for block := range 10 {
				if block < quota {
					b.writes(x, block, fill(block+less))
					continue
				}
				b.unchanged(b.writing(x.Volume, block, fill(1)), api.ErrQuota)
			}
			b.readsAll(x)
		}
		if quota == 0 {
			continue
		}
		x.Quota = quota
		b.unmaps(x, 0)
		b.writes(x, 9, fill(1))
		b.unchanged(b.writing(x.Volume, 0, fill(1)), api.ErrQuota)
		x.Quota = 0
		b.unmaps(x, each(1, 9)...)
	}
	b.empty()
}

// TestQuotaMapped: it is Mapped that is held against the quota.
func TestQuotaMapped(t *testing.T) {
	b := laid(t, 64)
	x := b.volume(10, 5)
	b.writes(x, 3, fill(1))
	for mapped, want := range map[int]api.Errno{0: api.OK, 1: api.OK, 4: api.OK, 5: api.ErrQuota, 6: api.ErrQuota, 1024: api.ErrQuota} {
		v := changed(x.Volume, 5, mapped)
		b.refused(b.writing(v, 4, fill(1)), want)
		b.refused(b.writing(v, 3, fill(1)), api.OK)
		b.refused(b.unmapping(v, 3), api.OK)
	}
}

// each is all numbers from one on to another one.
func each(from, to int) []int {
	var l []int
	for n := from; n <= to; n++ {
		l = append(l, n)
	}
	return l
}

// TestUnmapNothing: of a block that has no page, the very same volume, and nothing is changed or written.
func TestUnmapNothing(t *testing.T) {
	b := laid(t, 64)
	x := b.volume(100, 40)
	for round := range 3 {
		was := b.state()
		b.checkpoint()
		b.begins()
		for block := range 100 {
			if _, there := x.m[block]; there {
				continue
			}
			for _, v := range []api.Volume{x.Volume, changed(x.Volume, 5, 0), changed(x.Volume, 3, 0), changed(x.Volume, 1, 2)} {
				if got, e := thin.Unmap(b.p, v, block); got != v || e != api.OK {
					t.Fatalf("Unmap(%v, %d) = %v, %v", v, block, got, e)
				}
			}
		}
		b.stays(was)
		b.commits()
		if l := b.p.Dirty(); len(l) > 0 {
			t.Errorf("the pages %v were written", l)
		}
		for i := range 9 {
			b.writes(x, 30*round+2*i, fill(i))
		}
	}
	b.readsAll(x)
}
