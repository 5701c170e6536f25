package thin_test

import (
	"bytes"
	"maps"
	"slices"
	"testing"

	"polder/api"
	"polder/codec"
	"polder/disk"
	"polder/pool"
	"polder/store"
	"polder/thin"
)

const (
	least = -1 << 63
	most  = 1<<63 - 1
)

// bench is a pool in a test, the volumes that the test keeps, and how often the test refers to other pages.
type bench struct {
	*testing.T
	d       *disk.Disk
	pages   int
	p       *pool.Pool
	volumes []*kept
	held    map[int]int
	filler  []int
}

// kept is a volume, and the map of blocks that was told the same.
type kept struct {
	api.Volume
	m map[int]string
}

// logSize is how many sectors the log of a bench has.
const logSize = 200

// laid is a new pool of so many pages, with a log behind them.
func laid(t *testing.T, pages int) *bench {
	t.Helper()
	d, e := disk.New(2 + pages + logSize)
	if e != api.OK {
		t.Fatalf("disk.New: %v", e)
	}
	b := &bench{T: t, d: d, pages: pages, held: map[int]int{}}
	b.is("Format", pool.Format(d, pages, 2+pages, logSize), api.OK)
	b.opens()
	return b
}

// opens opens the pool, anew.
func (b *bench) opens() {
	b.Helper()
	s, e := store.Open(b.d)
	b.is("store.Open", e, api.OK)
	p, e := pool.Open(s)
	if p == nil || e != api.OK {
		b.Fatalf("pool.Open = %v, %v", p, e)
	}
	b.p = p
}

// is asks what a call answered.
func (b *bench) is(call string, got, want api.Errno) {
	b.Helper()
	if got != want {
		b.Errorf("%s = %v, not %v", call, got, want)
	}
}

func (b *bench) begins()     { b.Helper(); b.is("Begin", b.p.Begin(), api.OK) }
func (b *bench) commits()    { b.Helper(); b.is("Commit", b.p.Commit(), api.OK) }
func (b *bench) checkpoint() { b.Helper(); b.is("Checkpoint", b.p.Checkpoint(), api.OK) }

// does asks for something in a transaction of its own.
func (b *bench) does(call func()) {
	b.Helper()
	b.begins()
	call()
	b.commits()
}

// firstPages is how many pages are the catalogue and the counts.
func (b *bench) firstPages() int { return 1 + (b.pages+119)/120 }

// noughts are those of a block that has no page.
var noughts = make([]byte, 64)

// fill is a block's bytes, none of them like the next one, which a number tells.
func fill(n int) []byte {
	data := make([]byte, 64)
	for i := range data {
		data[i] = byte(n + 7*i + 1)
	}
	data[63] = byte(n >> 8)
	return data
}

// dataPage is a block's page, by hand.
func dataPage(data []byte) api.Page {
	return api.Page{Kind: api.KindData, Body: append(slices.Clone(data), make([]byte, 240-len(data))...)}
}

// nodePage is a node's page, by hand.
func nodePage(n api.Node) api.Page {
	x := api.Page{Kind: api.KindInner, Body: make([]byte, api.BodySize)}
	if n.Leaf {
		x.Kind, x.Body[0] = api.KindLeaf, 1
	}
	x.Body[1] = byte(len(n.Keys))
	for i, key := range n.Keys {
		val := n.Vals[i]
		copy(x.Body[2+6*i:], []byte{byte(key >> 24), byte(key >> 16), byte(key >> 8), byte(key), byte(val >> 8), byte(val)})
	}
	return x
}

// leaf is a leaf: a Key and its Val by turns.
func leaf(pairs ...int) api.Node {
	n := api.Node{Leaf: true}
	for i := 0; i < len(pairs); i += 2 {
		n.Keys, n.Vals = append(n.Keys, pairs[i]), append(n.Vals, pairs[i+1])
	}
	return n
}

// holds is a page that the test refers to.
func (b *bench) holds(x api.Page) int {
	b.Helper()
	n, e := 0, api.OK
	b.does(func() { n, e = b.p.Fresh(x) })
	if e != api.OK {
		b.Fatalf("Fresh: %v", e)
	}
	b.held[n]++
	return n
}

// fills has the test hold pages till so many are free.
func (b *bench) fills(free int) {
	b.Helper()
	for b.p.Free() != free {
		many := free - b.p.Free()
		b.does(func() {
			for range min(35, -many) {
				n, e := b.p.Fresh(dataPage(noughts))
				b.is("Fresh", e, api.OK)
				b.held[n]++
				b.filler = append(b.filler, n)
			}
			for range many {
				n := b.filler[len(b.filler)-1]
				b.is("Unref", b.p.Unref(n), api.OK)
				delete(b.held, n)
				b.filler = b.filler[:len(b.filler)-1]
			}
		})
	}
}

// volume is one of nothing, that the test keeps.
func (b *bench) volume(size, quota int) *kept {
	x := &kept{api.Volume{ID: 1 + len(b.volumes), State: api.VolumeLive, Size: size, Quota: quota}, map[int]string{}}
	b.volumes = append(b.volumes, x)
	return x
}

// snapshot is a volume that begins with another one's root, which the test keeps, too.
func (b *bench) snapshot(x *kept) *kept {
	b.Helper()
	y := b.volume(x.Size, x.Quota)
	y.Root, y.Mapped, y.m = x.Root, x.Mapped, maps.Clone(x.m)
	if x.Root != 0 {
		b.does(func() { b.is("Ref", b.p.Ref(x.Root), api.OK) })
	}
	b.sound()
	return y
}

// put writes a block, in a transaction that is under way: of the volume the Root alone may be another one, and Mapped as it has to be.
func (b *bench) put(x *kept, block int, data []byte) {
	b.Helper()
	v, e := thin.Write(b.p, x.Volume, block, data)
	want := x.Volume
	want.Root = v.Root
	if _, had := x.m[block]; !had {
		want.Mapped++
	}
	if e != api.OK || v != want || v.Root == 0 {
		b.Fatalf("Write(%v, %d) = %v, %v", x.Volume, block, v, e)
	}
	x.Volume, x.m[block] = v, string(data)
}

// drop takes a block's page away, in a transaction that is under way.
func (b *bench) drop(x *kept, block int) {
	b.Helper()
	v, e := thin.Unmap(b.p, x.Volume, block)
	want := x.Volume
	if _, had := x.m[block]; had {
		want.Root = v.Root
		want.Mapped--
	}
	if e != api.OK || v != want || (v.Root == 0) != (v.Mapped == 0) {
		b.Fatalf("Unmap(%v, %d) = %v, %v", x.Volume, block, v, e)
	}
	x.Volume = v
	delete(x.m, block)
}

// writes and unmaps do so in a transaction of their own, and ask whether all is sound.
func (b *bench) writes(x *kept, block int, data []byte) {
	b.Helper()
	b.does(func() { b.put(x, block, data) })
	b.sound()
}

func (b *bench) unmaps(x *kept, blocks ...int) {
	b.Helper()
	for _, block := range blocks {
		b.does(func() { b.drop(x, block) })
		b.sound()
	}
}

// read is what a block has to be read as.
func (x *kept) read(block int) []byte {
	if data, there := x.m[block]; there {
		return []byte(data)
	}
	return noughts
}

// reads asks for blocks.
func (b *bench) reads(x *kept, blocks ...int) {
	b.Helper()
	for _, block := range blocks {
		got, e := thin.Read(b.p, x.Volume, block)
		if e != api.OK || !bytes.Equal(got, x.read(block)) {
			b.Fatalf("Read(%v, %d) = %v, %v, not %v", x.Volume, block, got, e, x.read(block))
		}
	}
}

// readsAll asks for all blocks that are mapped, those beside them, and those at the ends.
func (b *bench) readsAll(x *kept) {
	b.Helper()
	b.reads(x, 0, x.Size-1)
	for block := range x.m {
		b.reads(x, max(0, block-1), block, min(x.Size-1, block+1))
	}
}

// node is the node in a page, as the codec has it.
func (b *bench) node(n int) api.Node {
	b.Helper()
	page, e := b.p.Read(n)
	x, ok := codec.GetNode(page.Body)
	if e != api.OK || !ok {
		b.Fatalf("page %d is no node's: kind %d, %v", n, page.Kind, e)
	}
	return x
}

// gathers adds the pages of the blocks below a page.
func (b *bench) gathers(n int, m map[int]int) {
	b.Helper()
	if n == 0 {
		return
	}
	x := b.node(n)
	for i, val := range x.Vals {
		if x.Leaf {
			m[x.Keys[i]] = val
		} else {
			b.gathers(val, m)
		}
	}
}

// pagesOf are the pages that a volume's blocks have.
func (b *bench) pagesOf(x *kept) map[int]int {
	b.Helper()
	m := map[int]int{}
	b.gathers(x.Root, m)
	return m
}

// refers adds how often pages are referred to by the nodes from a page on, each of which counts once.
func (b *bench) refers(n int, refs []int, seen map[int]bool) {
	b.Helper()
	if n == 0 || seen[n] {
		return
	}
	seen[n] = true
	x := b.node(n)
	for _, val := range x.Vals {
		refs[val]++
		if !x.Leaf {
			b.refers(val, refs, seen)
		}
	}
}

// laidOut asks whether the pages of a volume are those of its blocks: each a data page, whose bytes behind the block's are 0.
func (b *bench) laidOut(x *kept) {
	b.Helper()
	m := b.pagesOf(x)
	if len(m) != len(x.m) || x.Mapped != len(m) {
		b.Fatalf("%v has the pages %v, of %d blocks", x.Volume, m, len(x.m))
	}
	for block, data := range x.m {
		page, e := b.p.Read(m[block])
		if e != api.OK || !samePage(page, dataPage([]byte(data))) {
			b.Fatalf("block %d of %v is in page %d: %v, %v", block, x.Volume, m[block], page, e)
		}
	}
}

// sound asks whether all volumes are laid out as their maps, and each page has as many references as its count says: those of the volumes, and of the test.
func (b *bench) sound() {
	b.Helper()
	refs, seen := make([]int, b.pages), map[int]bool{}
	for n := range b.firstPages() {
		refs[n] = 1
	}
	for n, many := range b.held {
		refs[n] += many
	}
	for _, x := range b.volumes {
		b.laidOut(x)
		if x.Root != 0 {
			refs[x.Root]++
			b.refers(x.Root, refs, seen)
		}
	}
	free := 0
	for n, want := range refs {
		if got := b.p.Count(n); got != want {
			b.Fatalf("page %d has %d references, and its count is %d", n, want, got)
		}
		if want == 0 {
			free++
		}
	}
	if !b.p.Under() && b.p.Free() != free {
		b.Fatalf("%d pages are free, not %d", b.p.Free(), free)
	}
}

// empty asks that all is free but what the test holds.
func (b *bench) empty() {
	b.Helper()
	if b.p.Free() != b.pages-b.firstPages()-len(b.held) {
		b.Fatalf("%d pages are free", b.p.Free())
	}
}

// state is all that is told of a pool.
type state struct {
	counts []int
	free   int
	pages  []api.Page
}

// state tells it.
func (b *bench) state() state {
	b.Helper()
	x := state{free: b.p.Free()}
	for n := range b.pages {
		page, e := b.p.Read(n)
		b.is("Read", e, api.OK)
		x.counts, x.pages = append(x.counts, b.p.Count(n)), append(x.pages, page)
	}
	return x
}

// samePage tells whether two pages are one.
func samePage(x, y api.Page) bool { return x.Kind == y.Kind && bytes.Equal(x.Body, y.Body) }

// alike tells whether two states are one.
func alike(x, y state) bool {
	return x.free == y.free && slices.Equal(x.counts, y.counts) && slices.EqualFunc(x.pages, y.pages, samePage)
}

// stays asks that all is as it was.
func (b *bench) stays(was state) {
	b.Helper()
	if !alike(b.state(), was) {
		b.Fatal("a page, a count, or what is free is not as it was")
	}
}

// TestExamples are the chapter's.
func TestExamples(t *testing.T) {
	b := laid(t, 64)
	x := b.volume(10, 2)
	b.reads(x, 3)
	b.writes(x, 3, fill(1))
	b.writes(x, 4, fill(2))
	if x.Mapped != 2 {
		t.Errorf("Mapped is %d", x.Mapped)
	}
	b.refused(b.writing(x.Volume, 5, fill(3)), api.ErrQuota)
	b.writes(x, 3, fill(4))
	for range 2 {
		b.unmaps(x, 4)
		if x.Mapped != 1 {
			t.Errorf("Mapped is %d", x.Mapped)
		}
	}
	b.refused(b.reading(x.Volume, 10), api.ErrBlock)
	b.refused(b.writing(x.Volume, 0, fill(1)[:63]), api.ErrArg)
	b.readsAll(x)
}

// TestLife: a block that was never written, written, written twice, unmapped, unmapped twice, and written again; first and last blocks of volumes of any size.
func TestLife(t *testing.T) {
	b := laid(t, 100)
	for _, size := range []int{1, 2, 10, 1000, 1 << 20} {
		x := b.volume(size, size)
		for _, block := range []int{0, size - 1, size / 2} {
			b.reads(x, block)
			b.writes(x, block, fill(block))
			b.reads(x, block)
			for i := range 3 {
				b.writes(x, block, fill(block+i))
				b.reads(x, block)
			}
			b.writes(x, block, noughts) // which have a page all the same
			b.readsAll(x)
			b.writes(x, block, bytes.Repeat([]byte{255}, 64))
			b.readsAll(x)
			b.unmaps(x, block, block)
			b.reads(x, block)
			b.writes(x, block, fill(7))
			b.readsAll(x)
		}
		b.unmaps(x, 0, size-1, size/2)
		if x.Root != 0 || x.Mapped != 0 {
			t.Errorf("of nothing: %v", x.Volume)
		}
		b.readsAll(x)
		b.empty()
	}
}

// TestFresh: a Write takes a page that was free, and gives the one that the block had back; no page that was in use ahead of the transaction is changed, but nodes.
func TestFresh(t *testing.T) {
	b := laid(t, 64)
	x := b.volume(20, 20)
	for i := range 12 {
		b.writes(x, i, fill(i))
	}
	for i := range 12 {
		was, old := b.state(), b.pagesOf(x)[i]
		b.begins()
		b.put(x, i, fill(100+i))
		fresh := b.pagesOf(x)[i]
		if was.counts[fresh] != 0 || b.p.Count(fresh) != 1 || b.p.Count(old) != 0 {
			t.Errorf("block %d: page %d, with the count %d; it had %d, with %d", i, fresh, b.p.Count(fresh), old, b.p.Count(old))
		}
		if page, e := b.p.Read(old); e != api.OK || !samePage(page, was.pages[old]) {
			t.Errorf("block %d: the page that it had was written to", i)
		}
		b.commits()
		if b.p.Free() != was.free {
			t.Errorf("block %d: %d pages are free, not %d", i, b.p.Free(), was.free)
		}
		b.sound()
		b.readsAll(x)
	}
}

// TestMany: several Writes and Unmaps in one transaction, which reads what it wrote; the Abort takes all back.
func TestMany(t *testing.T) {
	b := laid(t, 100)
	x, y := b.volume(50, 50), b.volume(50, 50)
	b.writes(x, 9, fill(9))
	for _, whole := range []bool{false, true} {
		was, v, m := b.state(), []api.Volume{x.Volume, y.Volume}, []map[int]string{maps.Clone(x.m), maps.Clone(y.m)}
		b.begins()
		for i := range 6 {
			b.put(x, 7*i, fill(i))
			b.put(y, 3*i, fill(10+i))
			b.put(x, 7*i, fill(20+i))
			b.drop(y, 3*i-i%3)
			b.reads(x, 7*i, 9)
			b.reads(y, 3*i)
			b.sound()
		}
		if whole {
			b.commits()
			b.sound()
			b.readsAll(x)
			b.readsAll(y)
			continue
		}
		b.p.Abort()
		b.stays(was)
		x.Volume, y.Volume, x.m, y.m = v[0], v[1], m[0], m[1]
		b.sound()
		b.readsAll(x)
		b.readsAll(y)
	}
}
