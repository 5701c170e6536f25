package log_test

import (
	"math/rand/v2"
	"reflect"
	"testing"

	"polder/api"
	"polder/codec"
	"polder/log"
)

// writer is a log that is written in a test, and what is known of it.
type writer struct {
	bench
	random  *rand.Rand
	s       api.Super
	l       *log.Log
	records []api.Record // all since the superblock's
	lasting int          // how many of them were there when the disk was flushed last
	broken  bool
	next    int // the Seq
	place   int
}

// some are images in any number, whose bodies and numbers go by nothing.
func (w *writer) some(most int) []api.Image {
	var l []api.Image
	for _, number := range w.random.Perm(api.MaxPages)[:1+w.random.IntN(most)] {
		l = append(l, image(number, byte(w.random.Uint32())))
	}
	return l
}

// room is what is left of the ring, by what is known.
func (w *writer) room() int {
	if w.broken {
		return 0
	}
	return w.s.Len - w.taken(w.records)
}

// append appends, and holds what is answered against what is known.
func (w *writer) append(most int) {
	w.Helper()
	x := w.some(most)
	e := w.l.Append(copied(x))
	switch {
	case 1+len(x) > w.room():
		w.is("Append", e, api.ErrFull)
	case e == api.OK:
		w.records = append(w.records, api.Record{Seq: w.next, Images: x})
		w.next++
		w.place = (w.place + 1 + len(x)) % w.s.Len
	default:
		w.is("Append", e, api.ErrWrite)
		w.broken = true
		w.next++
	}
}

// drop forgets all records, and has the next ones looked for at the tail.
func (w *writer) drop() {
	w.l.Drop()
	w.s.Head, w.s.Seq = w.l.Tail()
	w.records, w.lasting, w.broken = nil, 0, false
}

// step has one thing done.
func (w *writer) step() {
	w.Helper()
	switch w.random.IntN(12) {
	case 0:
		if w.d.Flush() == api.OK {
			w.lasting = len(w.records)
		}
	case 1:
		w.d.Fail(api.FailWrite, 1+w.random.IntN(4))
	case 2:
		w.d.Fail(api.FailFlush, 1)
	case 3:
		w.drop()
	case 4:
		w.append(api.MaxImages)
	default:
		w.append(4)
	}
	w.tells(w.l, w.room(), w.place, w.next)
}

// crash takes the power away, any of what was written persisting, and asks what is found.
func (w *writer) crash() {
	w.Helper()
	picks := make([]int, w.random.IntN(90))
	for i := range picks {
		picks[i] = w.random.IntN(12) - 3
	}
	if w.random.IntN(4) == 0 {
		picks = nil
	}
	w.d.Crash(picks)
	l, got, e := log.Open(w.d, w.table, w.s)
	w.is("Open", e, api.OK)
	if len(got) < w.lasting || len(got) > len(w.records) {
		w.Fatalf("%d records are found, of %d of which %d were flushed", len(got), len(w.records), w.lasting)
	}
	if len(got) > 0 && !reflect.DeepEqual(got, w.records[:len(got)]) {
		w.Fatalf("found %v, not the first ones of %v", brief(got), brief(w.records))
	}
	w.tells(l, w.s.Len-w.taken(got), (w.s.Head+w.taken(got))%w.s.Len, w.s.Seq+len(got))
	if told := w.told(); !reflect.DeepEqual(brief(told), brief(got)) {
		w.Fatalf("found %v, not %v", brief(got), brief(told))
	}
}

// told is what Open is to find, told once more: of a copy of the ring's sectors, from Head on.
func (w *writer) told() []api.Record {
	w.Helper()
	left := w.ring(w.s, w.s.Head)
	var found []api.Record
	for len(left) > 0 {
		h, ok := codec.GetHead(w.table, left[:256])
		end := 256 * (1 + len(h.Pages))
		if !ok || h.Epoch != w.s.Epoch || h.Seq != w.s.Seq+len(found) || end > len(left) || h.Sum != w.table.Sum(left[256:end]) {
			break
		}
		r := api.Record{Seq: h.Seq}
		for i, number := range h.Pages {
			epoch, seq, x, ok := codec.GetImage(w.table, left[256*(1+i):256*(2+i)])
			if !ok || epoch != w.s.Epoch || seq != h.Seq || x.Number != number {
				return found
			}
			r.Images = append(r.Images, x)
		}
		found = append(found, r)
		left = left[end:]
	}
	return found
}

// again begins a log of the next Epoch over what lies in the ring, with any Seq.
func (w *writer) again() {
	w.Helper()
	w.s.Epoch++
	w.s.Head = w.random.IntN(w.s.Len)
	w.s.Seq = 5 + w.random.IntN(4)
	w.l = w.opens(w.s, nil)
	w.records, w.lasting, w.broken = nil, 0, false
	w.place, w.next = w.s.Head, w.s.Seq
}

// TestBehindCrash: behind a crash what is read are the first ones of what was appended, all that were ahead of the last flush among them, whatever the disk kept of the others, and whatever lay there ahead.
func TestBehindCrash(t *testing.T) {
	for seed := range uint64(150) {
		w := &writer{bench: laid(t, 120), random: rand.New(rand.NewPCG(seed, 5)), s: sample(0)}
		w.s.Len = 64 + w.random.IntN(30)
		for range 8 {
			w.again()
			for range 1 + w.random.IntN(40) {
				w.step()
			}
			w.crash()
			w.crash()
			if t.Failed() {
				t.Fatalf("seed %d", seed)
			}
		}
	}
}

// TestEachSectorLost: of some records that were not flushed any one sector, or all from one on, or all up to one, does not persist: all the records ahead of the first that lost one are found, and no other.
func TestEachSectorLost(t *testing.T) {
	s := sample(58)
	of := []int{0, 0, 1, 1, 1, 1, 2, 2, 2} // which record has the sector
	for lost := range of {
		for _, there := range []func(i int) bool{
			func(i int) bool { return i != lost },
			func(i int) bool { return i < lost },
			func(i int) bool { return i > lost },
		} {
			b := laid(t, 100)
			l := b.begins(s)
			want := []api.Record{{Seq: 5, Images: images(1, 1)}, {Seq: 6, Images: images(3, 2)}, {Seq: 7, Images: images(2, 3)}}
			for _, r := range want {
				b.appends(l, r.Images, api.OK)
			}
			var picks []int
			found := len(want)
			for i, record := range of {
				if !there(i) {
					found = min(found, record)
				}
			}
			for _, at := range b.d.Dirty() {
				picks = append(picks, 0)
				if there((at - 18 - 58 + 64) % 64) {
					picks[len(picks)-1] = 1
				}
			}
			b.d.Crash(picks)
			b.opens(s, want[:found])
		}
	}
}

// TestFlushedStay: what was flushed is found behind a crash, with all that was appended since lost, and with it kept.
func TestFlushedStay(t *testing.T) {
	for count := range 12 {
		for _, kept := range []bool{false, true} {
			s := sample(55)
			b := laid(t, 100)
			l := b.begins(s)
			var want []api.Record
			for i := range 12 {
				if i == count {
					b.is("Flush", b.d.Flush(), api.OK)
				}
				b.appends(l, images(1+i%4, byte(i)), api.OK)
				want = append(want, api.Record{Seq: 5 + i, Images: images(1+i%4, byte(i))})
			}
			if !kept {
				b.d.Crash(nil)
				b.opens(s, want[:count])
				continue
			}
			picks := make([]int, 64)
			for i := range picks {
				picks[i] = 1
			}
			b.d.Crash(picks)
			b.opens(s, want)
		}
	}
}

// TestCutAppend: the power goes ahead of a record's first Write, between its two, or behind them: just what was written whole may be found.
func TestCutAppend(t *testing.T) {
	for writes, want := range []api.Errno{api.ErrWrite, api.ErrWrite, api.OK} {
		for keep := range 2 {
			s := sample(62)
			b := laid(t, 100)
			l := b.begins(s)
			b.is("Cut", b.d.Cut(writes), api.OK)
			b.appends(l, images(3, 1), want)
			b.is("Flush", b.d.Flush(), api.ErrFlush)
			b.d.Crash([]int{keep, keep, keep, keep})
			if want == api.OK && keep == 1 {
				b.opens(s, []api.Record{{Seq: 5, Images: images(3, 1)}})
			} else {
				b.opens(s, nil)
			}
		}
	}
}
