package volumes_test

import (
	"bytes"
	"maps"
	"slices"
	"testing"

	"polder/api"
	"polder/codec"
	"polder/disk"
	"polder/pool"
	"polder/store"
	"polder/volumes"
)

const (
	least = -1 << 63
	most  = 1<<63 - 1
)

// bench is a pool in a test, its volumes, and what they were told, told once more.
type bench struct {
	*testing.T
	d     *disk.Disk
	pages int
	p     *pool.Pool
	v     *volumes.Volumes
	told
	held map[int]int // how often the test refers to pages
}

// told is a catalogue: of its places the Root is not told, but each volume's blocks are.
type told struct {
	next   int
	places [8]place
	stack  []int
}

// place is a volume without a Root, and its blocks.
type place struct {
	api.Volume
	m map[int]string
}

// kept is the same once more, apart from what it will be.
func (x told) kept() told {
	for i := range x.places {
		x.places[i].m = maps.Clone(x.places[i].m)
	}
	x.stack = slices.Clone(x.stack)
	return x
}

// logSize is how many sectors the log of a bench has.
const logSize = 200

// laid is a new pool of so many pages, with a log behind them, and its empty catalogue.
func laid(t *testing.T, pages int) *bench {
	t.Helper()
	d, e := disk.New(2 + pages + logSize)
	if e != api.OK {
		t.Fatalf("disk.New: %v", e)
	}
	b := &bench{T: t, d: d, pages: pages, told: told{next: 1}, held: map[int]int{}}
	b.is("Format", pool.Format(d, pages, 2+pages, logSize), api.OK)
	b.opens()
	return b
}

// opens opens the pool and its catalogue, anew.
func (b *bench) opens() {
	b.Helper()
	if e := b.triesToOpen(); e != api.OK {
		b.Fatalf("opened: %v", e)
	}
}

// triesToOpen does so, where the disk may refuse it.
func (b *bench) triesToOpen() api.Errno {
	b.Helper()
	s, e := store.Open(b.d)
	if e != api.OK {
		return e
	}
	p, e := pool.Open(s)
	if e != api.OK {
		return e
	}
	v, e := volumes.Open(p)
	if e != api.OK || v == nil {
		if v != nil || e == api.OK {
			b.Fatalf("Open = %v, %v", v, e)
		}
		return e
	}
	if v.Pool() != p {
		b.Error("Pool is another one")
	}
	b.p, b.v = p, v
	return api.OK
}

// is asks what a call answered.
func (b *bench) is(call string, got, want api.Errno) {
	b.Helper()
	if got != want {
		b.Errorf("%s = %v, not %v", call, got, want)
	}
}

func (b *bench) begins()     { b.Helper(); b.is("Begin", b.p.Begin(), api.OK) }
func (b *bench) commits()    { b.Helper(); b.is("Commit", b.p.Commit(), api.OK) }
func (b *bench) syncs()      { b.Helper(); b.is("Sync", b.v.Sync(), api.OK) }
func (b *bench) checkpoint() { b.Helper(); b.is("Checkpoint", b.p.Checkpoint(), api.OK) }

// firstPages is how many pages are the catalogue and the counts.
func (b *bench) firstPages() int { return 1 + (b.pages+119)/120 }

// fill is a block's bytes, none of them like the next one, which a number tells.
func fill(n int) []byte {
	data := make([]byte, 64)
	for i := range data {
		data[i] = byte(n + 7*i + 1)
	}
	data[63] = byte(n >> 8)
	return data
}

// blocks are the bytes of so many blocks, which numbers tell from one on.
func blocks(first, many int) []byte {
	var data []byte
	for i := range many {
		data = append(data, fill(first+i)...)
	}
	return data
}

// at is the place that a live volume has to have.
func (b *bench) at(id int) *place {
	b.Helper()
	for i := range b.places {
		if x := &b.places[i]; x.State == api.VolumeLive && x.ID == id {
			return x
		}
	}
	b.Fatalf("the test has no volume %d", id)
	return nil
}

// added is what one more volume is to be, at the first free place.
func (x *told) added(v api.Volume, m map[int]string) {
	for i := range x.places {
		if x.places[i].State == api.VolumeNone {
			v.ID, v.State = x.next, api.VolumeLive
			x.places[i] = place{v, m}
			x.next++
			return
		}
	}
}

// creates makes a volume: its ID.
func (b *bench) creates(size, quota int) int {
	b.Helper()
	id, e := b.v.Create(size, quota)
	if id != b.next || e != api.OK {
		b.Fatalf("Create(%d, %d) = %d, %v, not %d", size, quota, id, e, b.next)
	}
	b.added(api.Volume{Size: size, Quota: quota}, map[int]string{})
	b.sound()
	return id
}

// snapshots makes a snapshot: its ID.
func (b *bench) snapshots(of int) int {
	b.Helper()
	x := b.at(of)
	id, e := b.v.Snapshot(of)
	if id != b.next || e != api.OK {
		b.Fatalf("Snapshot(%d) = %d, %v, not %d", of, id, e, b.next)
	}
	b.added(x.Volume, maps.Clone(x.m))
	b.sound()
	return id
}

// deletes deletes volumes.
func (b *bench) deletes(ids ...int) {
	b.Helper()
	for _, id := range ids {
		b.is("Delete", b.v.Delete(id), api.OK)
		b.at(id).State = api.VolumeDying
		b.sound()
	}
}

// resizes gives a volume other sizes, one behind the other.
func (b *bench) resizes(id int, sizes ...int) {
	b.Helper()
	for _, size := range sizes {
		b.is("Resize", b.v.Resize(id, size), api.OK)
		b.at(id).Size = size
		b.sound()
	}
}

// put is what a block is to be.
func (x *place) put(block int, data []byte) {
	x.m[block] = string(data)
	x.Mapped = len(x.m)
}

// drop is what it is to be without its page.
func (x *place) drop(block int) {
	delete(x.m, block)
	x.Mapped = len(x.m)
}

// writes writes blocks.
func (b *bench) writes(id, at int, data []byte, sync bool) {
	b.Helper()
	many, e := b.v.Write(id, at, data, sync)
	if many*64 != len(data) || e != api.OK {
		b.Fatalf("Write(%d, %d, %d bytes, %v) = %d, %v", id, at, len(data), sync, many, e)
	}
	for i := range many {
		b.at(id).put(at+i, data[64*i:64*i+64])
	}
	b.sound()
}

// unmaps unmaps blocks.
func (b *bench) unmaps(id, at, count int) {
	b.Helper()
	many, e := b.v.Unmap(id, at, count)
	if many != count || e != api.OK {
		b.Fatalf("Unmap(%d, %d, %d) = %d, %v", id, at, count, many, e)
	}
	for i := range many {
		b.at(id).drop(at + i)
	}
	b.sound()
}

// read is what blocks are to be read as.
func (x *place) read(at, count int) []byte {
	var data []byte
	for i := range count {
		block := make([]byte, 64)
		copy(block, x.m[at+i])
		data = append(data, block...)
	}
	return data
}

// reads asks for blocks.
func (b *bench) reads(id, at, count int) {
	b.Helper()
	got, e := b.v.Read(id, at, count)
	if want := b.at(id).read(at, count); e != api.OK || !bytes.Equal(got, want) {
		b.Fatalf("Read(%d, %d, %d) = %v, %v, not %v", id, at, count, got, e, want)
	}
}

// readsVolume asks for all blocks of a volume that are mapped, those beside them, and those at its ends.
func (b *bench) readsVolume(id int) {
	b.Helper()
	x := b.at(id)
	b.reads(id, 0, min(8, x.Size))
	b.reads(id, x.Size-min(8, x.Size), min(8, x.Size))
	for block := range x.m {
		first := max(0, block-1)
		b.reads(id, first, min(3, x.Size-first))
	}
}

// readsAll asks for those of all volumes.
func (b *bench) readsAll() {
	b.Helper()
	for _, x := range b.places {
		if x.State == api.VolumeLive {
			b.readsVolume(x.ID)
		}
	}
}

// TestExamples are the chapter's.
func TestExamples(t *testing.T) {
	b := laid(t, 64)
	b.refused(b.creating(0, 1), api.ErrArg)
	if b.creates(10, 10) != 1 || b.creates(10, 10) != 2 {
		t.Error("the first IDs are not 1 and 2")
	}
	b.lists(1, 2)
	b.writes(1, 3, append(fill(1), fill(2)...), true)
	b.reads(1, 4, 1)
	if b.snapshots(1) != 3 {
		t.Error("the snapshot's ID is not 3")
	}
	b.writes(1, 4, fill(9), false)
	if got, e := b.v.Read(3, 4, 1); e != api.OK || !bytes.Equal(got, fill(2)) {
		t.Errorf("the snapshot's block is %v, %v", got, e)
	}
	b.refused(b.writing(1, 9, blocks(1, 2), false), api.ErrBlock)
	b.refused(b.writing(1, 0, make([]byte, 65), false), api.ErrArg)
	b.refused(b.writing(9, 0, fill(1), false), api.ErrVolume)
	b.refused(b.resizing(1, 4), api.ErrInUse)
	b.unmaps(1, 4, 1)
	b.resizes(1, 4)
	b.refused(b.reading(1, 4, 1), api.ErrBlock)
	b.deletes(2)
	b.refused(b.deleting(2), api.ErrVolume)
	b.lists(1, 3)
	b.readsAll()
}

// lists asks which volumes are listed.
func (b *bench) lists(ids ...int) {
	b.Helper()
	var got []int
	for _, x := range b.v.List() {
		got = append(got, x.ID)
	}
	if !slices.Equal(got, ids) {
		b.Errorf("List = %v, not %v", got, ids)
	}
}

// node is the node in a page, as the codec has it.
func (b *bench) node(n int) api.Node {
	b.Helper()
	page, e := b.p.Read(n)
	x, ok := codec.GetNode(page.Body)
	if e != api.OK || !ok {
		b.Fatalf("page %d is no node's: kind %d, %v", n, page.Kind, e)
	}
	return x
}

// refers adds how often pages are referred to by the nodes from a page on, each of which counts once.
func (b *bench) refers(n int, refs []int, seen map[int]bool) {
	b.Helper()
	if n == 0 || seen[n] {
		return
	}
	seen[n] = true
	x := b.node(n)
	for _, val := range x.Vals {
		refs[val]++
		if !x.Leaf {
			b.refers(val, refs, seen)
		}
	}
}

// sound asks whether the catalogue is as it was told, in the pool's page 0 too, and each page has as many references as its count says.
func (b *bench) sound() {
	b.Helper()
	c := b.v.Catalogue()
	b.asTold(c)
	page, e := b.p.Read(0)
	if e != api.OK || page.Kind != api.KindCatalogue || !bytes.Equal(page.Body, bytesOf(c)) {
		b.Fatalf("page 0 is %v, %v, of %v", page, e, c)
	}
	refs, seen := make([]int, b.pages), map[int]bool{}
	for n := range b.firstPages() {
		refs[n] = 1
	}
	for n, many := range b.held {
		refs[n] += many
	}
	for _, x := range c.Volumes {
		if x.Root != 0 {
			refs[x.Root]++
			b.refers(x.Root, refs, seen)
		}
	}
	for _, n := range c.Stack {
		refs[n]++
		b.refers(n, refs, seen)
	}
	free := 0
	for n, want := range refs {
		if got := b.p.Count(n); got != want {
			b.Fatalf("page %d has %d references, and its count is %d", n, want, got)
		}
		if want == 0 {
			free++
		}
	}
	if b.p.Free() != free || b.p.Under() {
		b.Fatalf("%d pages are free, not %d; a transaction is under way: %v", b.p.Free(), free, b.p.Under())
	}
}

// asTold asks whether a catalogue is what was told; and what is listed of it.
func (b *bench) asTold(c api.Catalogue) {
	b.Helper()
	if c.Next != b.next || len(c.Volumes) != 8 || !slices.Equal(c.Stack, b.stack) {
		b.Fatalf("the catalogue is %v, not %v", c, b.told)
	}
	var live []api.Volume
	for i, x := range c.Volumes {
		want := b.places[i].Volume
		want.Root = x.Root
		if x != want || (x.Root == 0) != (x.Mapped == 0) || x.Mapped != len(b.places[i].m) {
			b.Fatalf("the place %d is %v, not %v", i, x, b.places[i])
		}
		if x.State == api.VolumeLive {
			live = append(live, x)
		}
	}
	slices.SortFunc(live, func(x, y api.Volume) int { return x.ID - y.ID })
	if got := b.v.List(); !slices.Equal(got, live) {
		b.Fatalf("List = %v, not %v", got, live)
	}
}

// state is all that is told of a pool and its volumes.
type state struct {
	counts    []int
	free      int
	under     bool
	pages     []api.Page
	catalogue api.Catalogue
	list      []api.Volume
}

// state tells it.
func (b *bench) state() state {
	b.Helper()
	x := state{free: b.p.Free(), under: b.p.Under(), catalogue: b.v.Catalogue(), list: b.v.List()}
	for n := range b.pages {
		page, e := b.p.Read(n)
		b.is("Read", e, api.OK)
		x.counts, x.pages = append(x.counts, b.p.Count(n)), append(x.pages, page)
	}
	return x
}

// samePage tells whether two pages are one.
func samePage(x, y api.Page) bool { return x.Kind == y.Kind && bytes.Equal(x.Body, y.Body) }

// sameCatalogue tells whether two catalogues are one.
func sameCatalogue(x, y api.Catalogue) bool {
	return x.Next == y.Next && slices.Equal(x.Volumes, y.Volumes) && slices.Equal(x.Stack, y.Stack)
}

// stays asks that all is as it was.
func (b *bench) stays(was state) {
	b.Helper()
	now := b.state()
	if !sameCatalogue(now.catalogue, was.catalogue) || !slices.Equal(now.list, was.list) {
		b.Fatalf("the catalogue is %v, not %v", now.catalogue, was.catalogue)
	}
	if now.free != was.free || now.under != was.under || !slices.Equal(now.counts, was.counts) || !slices.EqualFunc(now.pages, was.pages, samePage) {
		b.Fatal("a page, a count, what is free, or whether a transaction is under way, is not as it was")
	}
}
