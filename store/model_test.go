package store_test

import (
	"maps"
	"math/rand/v2"
	"slices"
	"testing"

	"polder/api"
	"polder/log"
	"polder/store"
	"polder/super"
)

// chapter is the store told once more, its log, too, on a disk of its own to which the same happens.
type chapter struct {
	*bench
	x       api.Super
	place   int
	seq     int
	taken   int
	broken  bool
	dirty   map[int]api.Page
	written map[int]api.Page // nil: no transaction is under way
}

// append is log.Append of pages.
func (c *chapter) append(numbers []int) api.Errno {
	if c.broken || 1+len(numbers) > c.x.Len-c.taken {
		return api.ErrFull
	}
	var l []api.Page
	for _, p := range numbers {
		l = append(l, c.written[p])
	}
	record := c.record(c.x.Epoch, c.seq, numbers, l...)
	first := record[:min(len(record), (c.x.Len-c.place)*api.SectorSize)]
	e := c.d.Write(c.x.Start+c.place, first, false)
	if rest := record[len(first):]; e == api.OK && len(rest) > 0 {
		e = c.d.Write(c.x.Start, rest, false)
	}
	c.seq++
	if e != api.OK {
		c.broken = true
		return e
	}
	c.place = (c.place + 1 + len(numbers)) % c.x.Len
	c.taken += 1 + len(numbers)
	return api.OK
}

// bringHome writes the dirty pages, and flushes.
func (c *chapter) bringHome() api.Errno {
	for p := range api.MaxPages {
		if x, ok := c.dirty[p]; ok {
			if e := c.d.Write(2+p, c.pageSector(p, x), false); e != api.OK {
				return e
			}
		}
	}
	return c.d.Flush()
}

// save saves a superblock, and, with OK, has the log at its Head, without records, and no dirty page.
func (c *chapter) save(x api.Super) api.Errno {
	if super.Check(x, c.d.Size()) != api.OK {
		return api.ErrArg
	}
	if e := c.d.Write(x.Gen%2, c.superSector(x), true); e != api.OK {
		return e
	}
	c.x, c.place, c.seq, c.taken, c.broken, c.dirty = x, x.Head, x.Seq, 0, false, map[int]api.Page{}
	return api.OK
}

func (c *chapter) checkpoint() api.Errno {
	if len(c.dirty) == 0 && !c.broken && c.taken < c.x.Len {
		return api.OK
	}
	if e := c.d.Flush(); e != api.OK {
		return e
	}
	if e := c.bringHome(); e != api.OK {
		return e
	}
	x := c.x
	x.Gen, x.Head, x.Seq = x.Gen+1, c.place, c.seq
	return c.save(x)
}

func (c *chapter) open() api.Errno {
	x, e := super.Load(c.d, c.table)
	if e != api.OK {
		return e
	}
	_, records, e := log.Open(c.d, c.table, x)
	if e != api.OK {
		return e
	}
	c.x, c.dirty, c.written = x, map[int]api.Page{}, nil
	for _, r := range records {
		for _, y := range r.Images {
			c.dirty[y.Number] = y.Page
		}
	}
	if e := c.bringHome(); e != api.OK {
		return e
	}
	x.Gen, x.Epoch, x.Head, x.Seq = x.Gen+1, x.Epoch+1, 0, 1
	return c.save(x)
}

func (c *chapter) read(p int) (api.Page, api.Errno) {
	if p < 0 || p >= c.x.Pages {
		return never(), api.ErrRange
	}
	if x, ok := c.written[p]; ok {
		return x, api.OK
	}
	if x, ok := c.dirty[p]; ok {
		return x, api.OK
	}
	sector, e := c.d.Read(2+p, 1)
	if e != api.OK {
		return never(), e
	}
	if sector[0] == 0 {
		return never(), api.OK
	}
	x := api.Page{Kind: int(sector[4]), Body: sector[12:252]}
	if string(sector) != string(c.pageSector(p, x)) {
		return never(), api.ErrSum
	}
	return x, api.OK
}

func (c *chapter) write(p int, x api.Page) api.Errno {
	switch _, again := c.written[p]; {
	case c.written == nil:
		return api.ErrIdle
	case p < 0 || p >= c.x.Pages:
		return api.ErrRange
	case x.Kind < 1 || x.Kind > 5 || len(x.Body) != 240:
		return api.ErrArg
	case len(c.written) == 40 && !again:
		return api.ErrTooBig
	}
	c.written[p] = x
	return api.OK
}

func (c *chapter) begin() api.Errno {
	if c.written != nil {
		return api.ErrBusy
	}
	c.written = map[int]api.Page{}
	return api.OK
}

func (c *chapter) commit() api.Errno {
	if c.written == nil {
		return api.ErrIdle
	}
	e := c.appendOrEmpty()
	if e == api.OK {
		maps.Copy(c.dirty, c.written)
	}
	c.written = nil
	return e
}

func (c *chapter) appendOrEmpty() api.Errno {
	numbers := slices.Sorted(maps.Keys(c.written))
	if len(numbers) == 0 {
		return api.OK
	}
	if e := c.append(numbers); e != api.ErrFull {
		return e
	}
	switch e := c.checkpoint(); e {
	case api.OK:
		return c.append(numbers)
	case api.ErrFlush:
		return api.ErrWrite
	default:
		return e
	}
}

// alone is a call that is refused while a transaction is under way.
func (c *chapter) alone(call func() api.Errno) api.Errno {
	if c.written != nil {
		return api.ErrBusy
	}
	return call()
}

func (c *chapter) change(start, length int) api.Errno {
	if len(c.dirty) > 0 {
		return api.ErrBusy
	}
	x := c.x
	x.Gen, x.Epoch, x.Start, x.Len, x.Head, x.Seq = x.Gen+1, x.Epoch+1, start, length, 0, 1
	return c.save(x)
}

// pair is a store, and the chapter.
type pair struct {
	*bench
	c      *chapter
	random *rand.Rand
}

// both asks what a call of both answers.
func (w *pair) both(call string, got, want api.Errno) {
	w.Helper()
	w.is(call, got, want)
}

// step has one call asked of both.
func (w *pair) step() {
	w.Helper()
	p, x := w.random.IntN(50)-1, page(byte(w.random.Uint32()))
	switch w.random.IntN(24) {
	case 0:
		w.both("Sync", w.s.Sync(), w.c.alone(w.c.d.Flush))
	case 1:
		w.both("Checkpoint", w.s.Checkpoint(), w.c.alone(w.c.checkpoint))
	case 2:
		start, length := 49+w.random.IntN(30), 63+w.random.IntN(40)
		w.both("Switch", w.s.Switch(start, length), w.c.alone(func() api.Errno { return w.c.change(start, length) }))
	case 3:
		if w.random.IntN(3) == 0 {
			w.s.Abort()
			w.c.written = nil
		}
	case 4, 5:
		w.both("Begin", w.s.Begin(), w.c.begin())
	case 6:
		w.both("Commit", w.s.Commit(), w.c.commit())
	case 7:
		kind, n := 1+w.random.IntN(3), 1+w.random.IntN(20)
		w.both("Fail", w.d.Fail(kind, n), w.c.d.Fail(kind, n))
	case 8:
		x.Body = x.Body[:w.random.IntN(241)]
		w.both("Write", w.s.Write(p, x), w.c.write(p, x))
	case 9, 10:
		got, e := w.s.Read(p)
		want, f := w.c.read(p)
		w.both("Read", e, f)
		if !same(got, want) {
			w.Errorf("Read(%d) = %v, not %v", p, got, want)
		}
	case 11:
		if w.random.IntN(8) == 0 {
			w.goes()
		}
	default:
		w.both("Write", w.s.Write(p, x), w.c.write(p, x))
	}
}

// goes has the power go, within what comes next, and opens both.
func (w *pair) goes() {
	w.Helper()
	n := w.random.IntN(12)
	w.both("Cut", w.d.Cut(n), w.c.d.Cut(n))
	if w.random.IntN(2) == 0 {
		w.both("Commit", w.s.Commit(), w.c.commit())
		w.both("Checkpoint", w.s.Checkpoint(), w.c.alone(w.c.checkpoint))
	}
	for w.random.IntN(2) == 0 {
		_, e := store.Open(w.d)
		w.both("Open", e, w.c.open())
	}
	picks := randomPicks(w.random)
	behindCrash(w.T, "behind a crash", picks, w.bench, w.c.bench)
	w.opens()
	w.both("Open", api.OK, w.c.open())
}

// TestChapter: calls in any order, with errors and crashes of the disk among them, answer what the chapter has, and do to the disk what it has.
func TestChapter(t *testing.T) {
	for seed := range uint64(100) {
		w := pair{bench: modelled(t), random: rand.New(rand.NewPCG(seed, 6))}
		w.c = &chapter{bench: modelled(t)}
		w.opens()
		w.both("Open", api.OK, w.c.open())
		for range 400 {
			w.step()
			w.tells(w.c.x, slices.Sorted(maps.Keys(w.c.dirty))...)
			if !slices.Equal(w.d.Dirty(), w.c.d.Dirty()) {
				t.Errorf("dirty are %v, not %v", w.d.Dirty(), w.c.d.Dirty())
			}
			if t.Failed() {
				t.Fatalf("seed %d", seed)
			}
		}
		for _, b := range []*bench{w.bench, w.c.bench} {
			b.d.Fail(api.FailRead, api.MaxNumber)
		}
		alike(t, "at last", w.bench, w.c.bench)
	}
}

// modelled is a store in which a transaction may write more pages than may be.
func modelled(t *testing.T) *bench {
	t.Helper()
	b := laid(t, 130)
	b.is("Format", store.Format(b.d, 47, 49, 64), api.OK)
	return b
}
