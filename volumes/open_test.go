package volumes_test

import (
	"bytes"
	"testing"

	"polder/api"
	"polder/volumes"
)

// bytesOf is a catalogue's page, by hand: whatever its numbers are, a piece of them may stand there.
func bytesOf(c api.Catalogue) []byte {
	body := make([]byte, 240)
	number := func(at, width, n int) {
		for i := range width {
			body[at+i] = byte(n >> (8 * (width - 1 - i)))
		}
	}
	number(0, 4, c.Next)
	number(4, 1, len(c.Stack))
	for i, n := range c.Stack {
		number(5+2*i, 2, n)
	}
	for i, v := range c.Volumes {
		at := 21 + 19*i
		for _, x := range []struct{ width, n int }{{4, v.ID}, {1, v.State}, {4, v.Size}, {4, v.Quota}, {2, v.Root}, {4, v.Mapped}} {
			number(at, x.width, x.n)
			at += x.width
		}
	}
	return body
}

// lays lays a page where the catalogue is.
func (b *bench) lays(kind int, body []byte) {
	b.Helper()
	b.begins()
	b.is("Write", b.p.Write(0, api.Page{Kind: kind, Body: body}), api.OK)
	b.commits()
}

// opensAs asks what Open answers; what is opened is what was laid, and nothing is changed by it.
func (b *bench) opensAs(c api.Catalogue, want api.Errno) {
	b.Helper()
	b.lays(api.KindCatalogue, bytesOf(c))
	was := b.state()
	v, e := volumes.Open(b.p)
	b.stays(was)
	if e != want || (v == nil) != (e != api.OK) {
		b.Fatalf("Open of %v = %v, %v, not %v", c, v, e, want)
	}
	if v == nil {
		return
	}
	if v.Pool() != b.p || !sameCatalogue(v.Catalogue(), c) {
		b.Fatalf("Open of %v is %v", c, v.Catalogue())
	}
}

// places are eight of them: at some there is a volume.
func places(volumes map[int]api.Volume) []api.Volume {
	l := make([]api.Volume, 8)
	for i, v := range volumes {
		l[i] = v
	}
	return l
}

// plain is a volume that may be, but for what is changed of it.
func plain(change func(v *api.Volume)) api.Volume {
	v := api.Volume{ID: 5, State: api.VolumeLive, Size: 10, Quota: 3, Root: 20, Mapped: 2}
	change(&v)
	return v
}

// TestOpenNil: without a pool.
func TestOpenNil(t *testing.T) {
	if v, e := volumes.Open(nil); v != nil || e != api.ErrArg {
		t.Errorf("Open(nil) = %v, %v", v, e)
	}
}

// TestOpenNew: a pool that was just formatted has no volumes.
func TestOpenNew(t *testing.T) {
	for _, pages := range []int{16, 64, 120, 1024} {
		b := laid(t, pages)
		b.sound()
		if c := b.v.Catalogue(); c.Next != 1 || len(b.v.List()) != 0 {
			t.Errorf("%d pages: %v", pages, c)
		}
	}
}

// TestOpenFields: each field of a place at its edges, and just beyond.
func TestOpenFields(t *testing.T) {
	b := laid(t, 64)
	for _, f := range []struct {
		least, most int
		set         func(v *api.Volume, n int)
	}{
		{1, 99, func(v *api.Volume, n int) { v.ID = n }},
		{1, 2, func(v *api.Volume, n int) { v.State = n }},
		{1, 1 << 20, func(v *api.Volume, n int) { v.Size = n }},
		{0, 1 << 20, func(v *api.Volume, n int) { v.Quota = n }},
		{0, 1023, func(v *api.Volume, n int) { v.Root = n }},
		{0, 1024, func(v *api.Volume, n int) { v.Mapped = n }},
	} {
		for at := range 8 {
			for n, want := range map[int]api.Errno{f.least - 1: api.ErrImage, f.least: api.OK, f.most: api.OK, f.most + 1: api.ErrImage} {
				v := plain(func(v *api.Volume) { f.set(v, n) })
				b.opensAs(api.Catalogue{Next: 100, Volumes: places(map[int]api.Volume{at: v})}, want)
			}
			v := api.Volume{}
			f.set(&v, 1)
			b.opensAs(api.Catalogue{Next: 100, Volumes: places(map[int]api.Volume{at: v})}, api.ErrImage)
		}
	}
	for _, v := range []api.Volume{
		plain(func(v *api.Volume) { v.State = 255 }), plain(func(v *api.Volume) { v.Size = 1<<32 - 1 }), plain(func(v *api.Volume) { v.Root = 1<<16 - 1 }),
		plain(func(v *api.Volume) { v.Mapped = 1 << 20 }), plain(func(v *api.Volume) { v.Mapped = 1<<20 + 1 }), plain(func(v *api.Volume) { v.ID = 1<<30 + 1 }),
	} {
		b.opensAs(api.Catalogue{Next: 1 << 30, Volumes: places(map[int]api.Volume{3: v})}, api.ErrImage)
	}
}

// TestOpenIDs: each ID at one place alone, and below Next.
func TestOpenIDs(t *testing.T) {
	b := laid(t, 64)
	with := func(id, state int) api.Volume {
		return plain(func(v *api.Volume) { v.ID, v.State = id, state })
	}
	for _, s := range []struct {
		next, id int
		want     api.Errno
	}{{1, 1, api.ErrImage}, {2, 1, api.OK}, {2, 2, api.ErrImage}, {2, 3, api.ErrImage}, {3, 1, api.OK}, {1, 1 << 30, api.ErrImage},
		{1 << 30, 1<<30 - 1, api.OK}, {1 << 30, 1 << 30, api.ErrImage}, {1<<30 - 1, 1<<30 - 1, api.ErrImage}, {1<<30 + 1, 5, api.ErrImage}, {0, 1, api.ErrImage}} {
		for state := 1; state <= 2; state++ {
			for _, at := range []int{0, 4, 7} {
				b.opensAs(api.Catalogue{Next: s.next, Volumes: places(map[int]api.Volume{at: with(s.id, state)})}, s.want)
			}
		}
	}
	for i := range 8 {
		for j := range 8 {
			want := api.ErrImage
			if i == j {
				want = api.OK
			}
			for states := range 4 {
				m := map[int]api.Volume{i: with(6, 1+states%2)}
				m[j] = with(6, 1+states/2)
				m[(i+1)%8] = with(8, 1)
				if (i+1)%8 != j {
					b.opensAs(api.Catalogue{Next: 9, Volumes: places(m)}, want)
				}
			}
		}
	}
	all := map[int]api.Volume{}
	for i := range 8 {
		all[i] = with(8-i, 1+i%2)
	}
	b.opensAs(api.Catalogue{Next: 9, Volumes: places(all), Stack: []int{1, 2, 3, 4, 5, 6, 7, 1023}}, api.OK)
	b.opensAs(api.Catalogue{Next: 8, Volumes: places(all)}, api.ErrImage)
	b.opensAs(api.Catalogue{Next: 1 << 30, Volumes: make([]api.Volume, 8)}, api.OK)
}

// TestOpenNone: a page 0 that is no catalogue.
func TestOpenNone(t *testing.T) {
	b := laid(t, 64)
	good := bytesOf(api.Catalogue{Next: 9, Volumes: places(map[int]api.Volume{1: plain(func(*api.Volume) {})}), Stack: []int{3}})
	none := func(kind int, body []byte) {
		t.Helper()
		b.lays(kind, body)
		was := b.state()
		if v, e := volumes.Open(b.p); v != nil || e != api.ErrImage {
			t.Errorf("Open of %v of kind %d = %v, %v", body, kind, v, e)
		}
		b.stays(was)
	}
	for kind := api.KindCounts; kind <= api.KindData; kind++ {
		none(kind, good)
		none(kind, make([]byte, 240))
	}
	none(api.KindCatalogue, bytes.Repeat([]byte{255}, 240))
	for at := 173; at < 240; at++ {
		bad := bytes.Clone(good)
		bad[at] = 1
		none(api.KindCatalogue, bad)
	}
	for _, l := range [][]int{{1024}, {1, 65535}} {
		none(api.KindCatalogue, bytesOf(api.Catalogue{Next: 9, Volumes: make([]api.Volume, 8), Stack: l}))
	}
	for _, many := range []byte{0, 9, 255} { // a node behind an empty stack's end; and more nodes than there is room for
		bad := bytes.Clone(good)
		bad[4] = many
		none(api.KindCatalogue, bad)
	}
	b.lays(api.KindCatalogue, good)
	if _, e := volumes.Open(b.p); e != api.OK {
		t.Errorf("Open = %v", e)
	}
}

// TestOpenUnread: a page 0 that does not read, or is not what was written.
func TestOpenUnread(t *testing.T) {
	b := laid(t, 64)
	b.creates(10, 10)
	b.opens()
	was := b.state()
	b.is("Fail", b.d.Fail(api.FailRead, 1), api.OK)
	v, e := volumes.Open(b.p)
	if v != nil || e != api.ErrRead {
		t.Errorf("Open = %v, %v", v, e)
	}
	good, _ := b.d.Read(2, 1)
	other, _ := b.d.Read(3, 1)
	for _, s := range []struct {
		bytes []byte
		want  api.Errno
	}{{bytes.Repeat([]byte{7}, 256), api.ErrSum}, {other, api.ErrSum}, {make([]byte, 256), api.ErrImage}, {good, api.OK}} {
		b.is("Write", b.d.Write(2, s.bytes, true), api.OK)
		v, e := volumes.Open(b.p)
		if (v == nil) != (s.want != api.OK) || e != s.want {
			t.Errorf("Open = %v, %v, not %v", v, e, s.want)
		}
	}
	b.stays(was)
}

// TestOpenUnder: within a transaction page 0 is as the transaction has it.
func TestOpenUnder(t *testing.T) {
	b := laid(t, 64)
	b.creates(10, 10)
	c := api.Catalogue{Next: 9, Volumes: places(map[int]api.Volume{1: plain(func(*api.Volume) {})})}
	b.begins()
	b.is("Write", b.p.Write(0, api.Page{Kind: api.KindCatalogue, Body: bytesOf(c)}), api.OK)
	v, e := volumes.Open(b.p)
	if e != api.OK || !sameCatalogue(v.Catalogue(), c) || !b.p.Under() {
		t.Errorf("Open = %v, %v", v, e)
	}
	b.p.Abort()
	b.sound()
}
