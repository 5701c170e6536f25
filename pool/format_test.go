package pool_test

import (
	"bytes"
	"slices"
	"testing"

	"polder/api"
	"polder/disk"
	"polder/pool"
	"polder/store"
)

// sizes are pools of one page of counts, of two and of more, about the borders between them.
func sizes() []int { return []int{16, 17, 119, 120, 121, 240, 241, 1024} }

// many is how many pages of counts there are, by hand.
func many(pages int) int {
	n := 0
	for ; pages > 0; pages -= 120 {
		n++
	}
	return n
}

// catalogue is page 0 of a new pool: the next ID is 1.
func catalogue() api.Page {
	body := make([]byte, api.BodySize)
	body[3] = 1
	return api.Page{Kind: api.KindCatalogue, Body: body}
}

// countsOf is a page of counts: each is two bytes, the higher one first.
func countsOf(l ...int) api.Page {
	body := make([]byte, api.BodySize)
	for i, n := range l {
		body[2*i], body[2*i+1] = byte(n>>8), byte(n)
	}
	return api.Page{Kind: api.KindCounts, Body: body}
}

// firstPages are those of a new pool: the catalogue and the counts.
func firstPages(pages int) []api.Page {
	ones := slices.Repeat([]int{1}, many(pages)+1)
	l := []api.Page{catalogue(), countsOf(ones...)}
	for len(l) <= many(pages) {
		l = append(l, countsOf())
	}
	return l
}

// isNew asks that a pool is as behind its Format.
func (b *bench) isNew() {
	b.Helper()
	b.stays(newState(b.pages))
}

// newState is what is told of a new pool.
func newState(pages int) state {
	first := firstPages(pages)
	x := state{counts: make([]int, pages), pages: make([]api.Page, pages), free: pages - len(first)}
	copy(x.pages, first)
	for n := range first {
		x.counts[n] = 1
	}
	return x
}

// bytes are all of the disk.
func (b *bench) bytes() []byte {
	b.Helper()
	data, e := b.d.Read(0, b.d.Size())
	b.is("Read", e, api.OK)
	return data
}

// TestFormat: the catalogue and the counts are there, all others were never written, and that is durable.
func TestFormat(t *testing.T) {
	for _, pages := range sizes() {
		b := blank(t, pages)
		b.is("Format", b.format(), api.OK)
		if l := b.d.Dirty(); len(l) != 0 {
			t.Errorf("%d pages: sectors %v are not durable", pages, l)
		}
		b.d.Crash(nil)
		b.opens()
		b.isNew()
	}
}

// byHand is what Format is to do, by the store's calls.
func byHand(b *bench) api.Errno {
	if e := store.Format(b.d, b.pages, place(b.pages), api.MinLog); e != api.OK {
		return e
	}
	s, e := store.Open(b.d)
	if e != api.OK {
		return e
	}
	s.Begin()
	for n, x := range firstPages(b.pages) {
		s.Write(n, x)
	}
	if e := s.Commit(); e != api.OK {
		return e
	}
	return s.Sync()
}

// TestFormatByHand: it is the store's Format, one transaction on the store that is opened, and a Sync, and nothing else, also where the disk is cut behind some of its writes and flushes.
func TestFormatByHand(t *testing.T) {
	for _, pages := range []int{16, 121} {
		want := api.ErrWrite
		for n := 0; want != api.OK; n++ {
			b, twin := blank(t, pages), blank(t, pages)
			b.d.Cut(n)
			twin.d.Cut(n)
			want = byHand(twin)
			b.is("Format", b.format(), want)
			if !bytes.Equal(b.bytes(), twin.bytes()) || !slices.Equal(b.d.Dirty(), twin.d.Dirty()) {
				t.Fatalf("%d pages, cut behind %d: the disk is not as it has to be; dirty are %v, not %v", pages, n, b.d.Dirty(), twin.d.Dirty())
			}
		}
	}
}

// TestFormatRefused: what the store refuses; nothing is done.
func TestFormatRefused(t *testing.T) {
	for _, c := range []struct{ pages, start, length int }{
		{15, 18, 64}, {0, 18, 64}, {-1, 18, 64}, {least, 18, 64}, {most, 18, 64}, {1025, 1027, 64}, {1 << 32, 18, 64},
		{16, 17, 64}, {16, 18, 63}, {16, 65, 64}, {16, 18, 111}, {16, -1, 64}, {16, 18, -1}, {16, 18, 0}, {16, most, 64}, {16, 18, most}, {16, least, 64}, {16, 128, 64},
		{17, 18, 64}, {63, 65, 64}, {112, 114, 64},
	} {
		d, _ := disk.New(128)
		b := &bench{T: t, d: d, pages: 16}
		b.quiet("Format", func() { b.is("Format", pool.Format(d, c.pages, c.start, c.length), api.ErrArg) })
		b.is("Format of no disk", pool.Format(nil, c.pages, c.start, c.length), api.ErrArg)
		if len(d.Dirty()) != 0 {
			t.Errorf("Format(%v) wrote", c)
		}
	}
	if e := pool.Format(nil, 16, 18, 64); e != api.ErrArg {
		t.Errorf("Format of no disk = %v", e)
	}
	big, _ := disk.New(1200)
	if e := pool.Format(big, 1025, 1027, 64); e != api.ErrArg {
		t.Errorf("Format of 1025 pages = %v", e)
	}
	if e := pool.Format(big, 1024, 1026, 64); e != api.OK {
		t.Errorf("Format of 1024 pages = %v", e)
	}
}

// TestFormatElsewhere: the log may stand behind a gap, and be as long as there is room.
func TestFormatElsewhere(t *testing.T) {
	d, _ := disk.New(128)
	b := &bench{T: t, d: d, pages: 16}
	b.is("Format", pool.Format(d, 16, 40, 88), api.OK)
	b.opens()
	b.isNew()
	if x := b.p.Super(); x.Start != 40 || x.Len != 88 || x.Pages != 16 {
		t.Errorf("Super = %+v", x)
	}
}

// told are the disk's errors, by what is to fail.
func told(kind int) api.Errno {
	return [...]api.Errno{api.FailRead: api.ErrRead, api.FailWrite: api.ErrWrite, api.FailFlush: api.ErrFlush}[kind]
}

// asked is how many operations of a kind a call asks of the disk, the first of which that fails is its answer.
func asked(t *testing.T, pages, kind int, call func(b *bench) api.Errno) int {
	t.Helper()
	for n := range 1000 {
		b := blank(t, pages)
		b.is("Fail", b.d.Fail(kind, n+1), api.OK)
		e := call(b)
		if e == api.OK {
			return n
		}
		b.is("Format", e, told(kind))
	}
	t.Fatal("a Format does not end")
	return 0
}

// TestFormatFails: the disk fails at any of its calls: that is the answer, and there it ends.
func TestFormatFails(t *testing.T) {
	for _, pages := range []int{16, 121} {
		for _, kind := range []int{api.FailRead, api.FailWrite, api.FailFlush} {
			got := asked(t, pages, kind, (*bench).format)
			if want := asked(t, pages, kind, byHand); got != want || want == 0 {
				t.Errorf("%d pages: Format asks %d operations of kind %d, not %d", pages, got, kind, want)
			}
		}
	}
}

// TestFormatHalf: behind a Format that the disk, or the power, ended, any sectors persisting, no pool is opened that is not whole.
func TestFormatHalf(t *testing.T) {
	for _, pages := range []int{16, 121} {
		whole := 0
		for n, more := 0, true; more && !t.Failed(); n++ {
			for _, picks := range somePicks(pages + 200) {
				b := blank(t, pages)
				b.is("Cut", b.d.Cut(n), api.OK)
				e := b.format()
				more = e != api.OK
				b.d.Crash(picks)
				if b.opensWhole() {
					whole++
				} else if !more {
					t.Errorf("%d pages: there is no pool behind a Format", pages)
				}
			}
			for _, kind := range []int{api.FailRead, api.FailWrite, api.FailFlush} {
				b := blank(t, pages)
				b.is("Fail", b.d.Fail(kind, n+1), api.OK)
				b.format()
				b.d.Fail(kind, api.MaxNumber)
				b.opensWhole()
			}
		}
		if whole == 0 {
			t.Error("no Format was whole")
		}
	}
}

// opensWhole asks that no pool is there, or a whole one; which of them.
func (b *bench) opensWhole() bool {
	b.Helper()
	s, e := store.Open(b.d)
	if e != api.OK {
		return false
	}
	p, e := pool.Open(s)
	if e != api.OK {
		b.is("Open", e, api.ErrImage)
		return false
	}
	b.s, b.p = s, p
	b.isNew()
	return true
}

// somePicks are picks for crashes: nothing persists, all does, and some between.
func somePicks(sectors int) [][]int {
	l := [][]int{nil, make([]int, sectors), make([]int, sectors), make([]int, sectors), make([]int, sectors)}
	for i := range sectors {
		l[1][i], l[2][i], l[3][i], l[4][i] = -1, i%2, (i+1)%2, 1
	}
	return l
}
