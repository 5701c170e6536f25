package super_test

import (
	"bytes"
	"math"
	"slices"
	"testing"

	"polder/api"
	"polder/codec"
	"polder/crc"
	"polder/disk"
	"polder/super"
)

// bench is a disk in a test, with a table.
type bench struct {
	*testing.T
	d     *disk.Disk
	table *crc.Table
}

// laid is a new disk of so many sectors.
func laid(t *testing.T, sectors int) bench {
	t.Helper()
	d, e := disk.New(sectors)
	if e != api.OK {
		t.Fatalf("disk.New(%d): %v", sectors, e)
	}
	return bench{t, d, crc.New()}
}

// sample is a superblock of that Gen, which may be on a disk of 82 sectors or more.
func sample(gen int) api.Super {
	return api.Super{Gen: gen, Epoch: 1, Pages: 16, Start: 18, Len: 64}
}

// is asks what a call answered.
func (b bench) is(call string, got, want api.Errno) {
	b.Helper()
	if got != want {
		b.Errorf("%s = %v, not %v", call, got, want)
	}
}

// saves asks a Save of the bench's disk.
func (b bench) saves(s api.Super, want api.Errno) {
	b.Helper()
	if e := super.Save(b.d, b.table, s); e != want {
		b.Errorf("Save(%+v) = %v, not %v", s, e, want)
	}
}

// loads asks a Load that finds a superblock.
func (b bench) loads(want api.Super) {
	b.Helper()
	if s, e := super.Load(b.d, b.table); s != want || e != api.OK {
		b.Errorf("Load = %+v, %v, not %+v", s, e, want)
	}
}

// loadFails asks a Load that is refused.
func (b bench) loadFails(want api.Errno) {
	b.Helper()
	if s, e := super.Load(b.d, b.table); s != (api.Super{}) || e != want {
		b.Errorf("Load = %+v, %v, not %v", s, e, want)
	}
}

// loadsAny asks for a superblock, or for that there is none.
func (b bench) loadsAny(s api.Super, there bool) {
	b.Helper()
	if there {
		b.loads(s)
	} else {
		b.loadFails(api.ErrImage)
	}
}

// lay writes sectors past Save, to stay.
func (b bench) lay(at int, data []byte) {
	b.Helper()
	b.is("Write", b.d.Write(at, data, true), api.OK)
}

// sector is a superblock's bytes.
func (b bench) sector(s api.Super) []byte {
	b.Helper()
	data, e := codec.PutSuper(b.table, s)
	b.is("PutSuper", e, api.OK)
	return data
}

// all is the bytes of the whole disk.
func (b bench) all() []byte {
	b.Helper()
	data, e := b.d.Read(0, b.d.Size())
	b.is("Read", e, api.OK)
	return data
}

// leaves asks that a call leaves the disk as it is: what is read, and what is dirty.
func (b bench) leaves(what string, call func()) {
	b.Helper()
	data, dirty := b.all(), b.d.Dirty()
	call()
	if !bytes.Equal(b.all(), data) || !slices.Equal(b.d.Dirty(), dirty) {
		b.Errorf("%s changes the disk", what)
	}
}

func TestExamples(t *testing.T) {
	s := sample(1)
	pages, start, length, head := s, s, s, s
	pages.Pages, start.Start, length.Len, head.Head = 15, 17, 63, 64
	b := laid(t, 100)
	b.is("Check on 100", super.Check(s, 100), api.OK)
	b.is("Check on 81", super.Check(s, 81), api.ErrArg)
	for _, other := range []api.Super{pages, start, length, head} {
		b.is("Check", super.Check(other, 100), api.ErrArg)
	}
	b.loadFails(api.ErrImage)
	b.saves(s, api.OK)
	b.loads(s)
	second, fourth := sample(2), sample(4)
	fourth.Head = 7
	b.saves(second, api.OK)
	b.loads(second)
	b.saves(fourth, api.OK)
	b.loads(fourth)
	b.lay(0, make([]byte, 256))
	b.loads(s)
	b.is("Fail", b.d.Fail(api.FailRead, 2), api.OK)
	b.loadFails(api.ErrRead)
	b.loads(s)
}

// edge is a superblock and a number of sectors, and whether the one may be on the other.
type edge struct {
	s       api.Super
	sectors int
	ok      bool
}

// with is the sample with some numbers in the places of its own.
func with(change func(s *api.Super)) api.Super {
	s := sample(1)
	change(&s)
	return s
}

// beyond are numbers that no field may have.
func beyond() []int {
	return []int{math.MinInt, -1 << 41, -1 << 40, -2, -1, 1<<40 + 1, 1 << 41, 1 << 62, math.MaxInt - 64, math.MaxInt}
}

// fields are the fields of a superblock.
func fields(s *api.Super) []*int {
	return []*int{&s.Gen, &s.Epoch, &s.Pages, &s.Start, &s.Len, &s.Head, &s.Seq}
}

// anyNumber are the edges of the fields that any number fits that may be written.
func anyNumber() []edge {
	var l []edge
	for _, n := range []int{0, 1, 2, 1 << 31, 1 << 32, 1<<40 - 1, 1 << 40} {
		l = append(l,
			edge{with(func(s *api.Super) { s.Gen = n }), 82, true},
			edge{with(func(s *api.Super) { s.Epoch = n }), 82, true},
			edge{with(func(s *api.Super) { s.Seq = n }), 82, true})
	}
	return l
}

// placed are the edges of Pages, Start, Len and Head, and of how many sectors there are.
func placed() []edge {
	at := func(pages, start, length, head, sectors int, ok bool) edge {
		return edge{api.Super{Gen: 6, Epoch: 5, Pages: pages, Start: start, Len: length, Head: head, Seq: 4}, sectors, ok}
	}
	const most, far = api.MaxNumber, math.MaxInt
	return []edge{
		at(0, 18, 64, 0, 100, false),
		at(15, 18, 64, 0, 100, false),
		at(16, 18, 64, 0, 100, true),
		at(17, 18, 64, 0, 100, false),
		at(17, 19, 64, 0, 100, true),
		at(1024, 1026, 64, 0, 1090, true),
		at(1024, 1025, 64, 0, 1090, false),
		at(1025, 1027, 64, 0, 4096, false),
		at(most, most, 64, 0, far, false),
		at(16, 0, 64, 0, 100, false),
		at(16, 1, 64, 0, 100, false),
		at(16, 16, 64, 0, 100, false),
		at(16, 17, 64, 0, 100, false),
		at(500, 501, 64, 0, 4096, false),
		at(500, 502, 64, 0, 4096, true),
		at(16, 36, 64, 0, 100, true),
		at(16, 37, 64, 0, 100, false),
		at(16, 100, 64, 0, 100, false),
		at(16, 18, 0, 0, 100, false),
		at(16, 18, 1, 0, 100, false),
		at(16, 18, 63, 0, 100, false),
		at(16, 18, 65, 0, 100, true),
		at(16, 18, 82, 0, 100, true),
		at(16, 18, 83, 0, 100, false),
		at(16, 18, 64, 1, 100, true),
		at(16, 18, 64, 63, 100, true),
		at(16, 18, 64, 64, 100, false),
		at(16, 18, 64, 65, 100, false),
		at(16, 18, 82, 81, 100, true),
		at(16, 18, 82, 82, 100, false),
		at(1024, 1026, 3070, 3069, 4096, true),
		at(1024, 1026, 3071, 0, 4096, false),
		at(16, 4032, 64, 0, 4096, true),
		at(16, 4033, 64, 0, 4096, false),
		at(16, 18, most, most-1, far, true),
		at(16, 18, most, most, far, false),
		at(16, 18, most, 0, most+18, true),
		at(16, 18, most, 0, most+17, false),
		at(16, most, 64, 0, most+64, true),
		at(16, most, 64, 0, most+63, false),
		at(16, most, most, 0, 2*most, true),
		at(16, most, most, 0, 2*most-1, false),
		at(16, 1<<32+18, 64, 0, 100, false),
		at(16, 18, 1<<32+64, 0, 100, false),
		at(1<<32+16, 18, 64, 0, 100, false),
		at(16, 18, 64, 0, 82, true),
		at(16, 18, 64, 0, 81, false),
		at(16, 18, 64, 0, 2, false),
		at(16, 18, 64, 0, 1, false),
		at(16, 18, 64, 0, 0, false),
		at(16, 18, 64, 0, -1, false),
		at(16, 18, 64, 0, -100, false),
		at(16, 18, 64, 0, -far-1, false),
		at(16, 18, 64, 0, 4097, true),
		at(16, 18, 64, 0, far, true),
	}
}

// TestCheck: each field at its least and its greatest, and one beyond, and any number of sectors.
func TestCheck(t *testing.T) {
	for _, c := range slices.Concat(anyNumber(), placed()) {
		if e := super.Check(c.s, c.sectors); (e == api.OK) != c.ok || !c.ok && e != api.ErrArg {
			t.Errorf("Check(%+v, %d) = %v", c.s, c.sectors, e)
		}
	}
}

// TestCheckBeyond: what may not be written may not be on a disk of any number of sectors, nor do great numbers wrap round.
func TestCheckBeyond(t *testing.T) {
	for _, n := range beyond() {
		for i := range fields(&api.Super{}) {
			for j := range fields(&api.Super{}) {
				s := sample(1)
				*fields(&s)[j] = api.MaxNumber
				*fields(&s)[i] = n
				for _, sectors := range []int{math.MinInt, -1, 0, 100, 4096, math.MaxInt} {
					if e := super.Check(s, sectors); e != api.ErrArg {
						t.Errorf("Check(%+v, %d) = %v", s, sectors, e)
					}
				}
			}
		}
	}
}

// TestCheckAsCodec: what may be on a disk is what codec writes.
func TestCheckAsCodec(t *testing.T) {
	table := crc.New()
	for _, n := range append(beyond(), 0, 1, 15, 16, 63, 64, 100, 1024, 1025, 1<<40-1, 1<<40) {
		for i := range fields(&api.Super{}) {
			s := sample(1)
			*fields(&s)[i] = n
			if _, e := codec.PutSuper(table, s); e != api.OK && super.Check(s, math.MaxInt) != api.ErrArg {
				t.Errorf("Check takes %+v, and codec does not", s)
			}
		}
	}
}
