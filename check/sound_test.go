package check_test

import (
	"math/rand/v2"
	"slices"
	"testing"

	"polder/api"
	"polder/check"
	"polder/sweep"
)

// live is the ID of a live volume, by chance; false, if there is none.
func (b *bench) live(r *rand.Rand) (int, bool) {
	l := b.v.List()
	if len(l) == 0 {
		return 0, false
	}
	return l[r.IntN(len(l))].ID, true
}

// asks asks for anything that volumes and the collector do, by chance, also for what they refuse; what it is answered does not matter.
func (b *bench) asks(r *rand.Rand) {
	b.Helper()
	id, ok := b.live(r)
	if !ok || r.IntN(25) == 0 {
		b.v.Create(20+r.IntN(40), r.IntN(200))
		return
	}
	at, many := r.IntN(60), 1+r.IntN(9)
	switch k := r.IntN(100); {
	case k < 6:
		b.v.Snapshot(id)
	case k < 13:
		b.v.Delete(id)
	case k < 15:
		b.v.Resize(id, r.IntN(62))
	case k < 18:
		b.p.Checkpoint()
	case k < 20:
		b.v.Sync()
	case k < 32:
		b.v.Unmap(id, at, many)
	case k < 60:
		sweep.Step(b.v)
	default:
		b.v.Write(id, at, make([]byte, 64*many), r.IntN(8) == 0)
	}
}

// crashes has the power go and come back, whatever the disk keeps, and go again while all is opened.
func (b *bench) crashes(r *rand.Rand) {
	b.Helper()
	for again := r.IntN(3); ; again-- {
		picks := slices.Repeat([]int{-1}, r.IntN(1+len(b.d.Dirty()))) // the first ones persist, as they were written last
		for range r.IntN(5) {
			picks = append(picks, r.IntN(9))
		}
		b.d.Crash(picks)
		if again <= 0 {
			break
		}
		b.is("Cut", b.d.Cut(r.IntN(12)), api.OK)
		b.triesToOpen() // what it is answered does not matter
	}
	b.opens()
}

// fails has the disk fail somewhere soon, or not at all.
func (b *bench) fails(r *rand.Rand, soon int) {
	b.Helper()
	for _, kind := range []int{api.FailRead, api.FailWrite, api.FailFlush} {
		at := never
		if soon > 0 && r.IntN(2) == 0 {
			at = 1 + r.IntN(soon)
		}
		b.is("Fail", b.d.Fail(kind, at), api.OK)
	}
}

// TestSound: whatever is asked of volumes and the collector, with small pools and logs: nothing is wrong, broken or lost behind any call, nor behind an Open; in the end just what live volumes reach is there.
func TestSound(t *testing.T) {
	for seed := range uint64(12) {
		r := rand.New(rand.NewPCG(17, 100+seed))
		pages := []int{40, 80, 130, 300}[seed%4]
		b := laidWith(t, pages, 64+int(seed)*10)
		least := pages
		for i := range 400 {
			b.asks(r)
			b.sound()
			least = min(least, b.p.Free())
			if i%60 == 59 {
				b.syncs()
				b.opens()
				b.sound()
			}
		}
		if pages == 40 && least > 3 {
			t.Errorf("%d pages were free, always", least)
		}
		b.sweepsAll()
		b.counts(b.look().Live, 0)
		b.deletesAll()
		b.counts(0, 0)
	}
}

// deletesAll deletes all volumes, and has all be given back.
func (b *bench) deletesAll() {
	b.Helper()
	for _, x := range b.v.List() {
		b.deletes(x.ID)
	}
	b.sweepsAll()
}

// TestSoundCrashes: the power goes anywhere, whatever the disk keeps, while all is opened, too.
func TestSoundCrashes(t *testing.T) {
	dying := 0
	for seed := range uint64(8) {
		r := rand.New(rand.NewPCG(17, 200+seed))
		b := laidWith(t, 150, 64+int(seed)*20)
		for range 40 {
			b.is("Cut", b.d.Cut(r.IntN(60)), api.OK)
			for range 25 {
				b.asks(r)
			}
			b.sound() // also while the disk takes nothing any more
			b.crashes(r)
			b.sound()
			dying += b.look().Dying
		}
		b.deletesAll()
		b.counts(0, 0)
	}
	if dying == 0 {
		t.Error("nothing was dying")
	}
}

// TestSoundErrors: the disk fails to read, to write and to flush, time and again.
func TestSoundErrors(t *testing.T) {
	for seed := range uint64(8) {
		r := rand.New(rand.NewPCG(17, 300+seed))
		b := laidWith(t, 150, 64+int(seed)*20)
		for i := range 300 {
			b.fails(r, 1+r.IntN(30))
			for range 1 + r.IntN(4) {
				b.asks(r)
			}
			b.fails(r, 0)
			b.sound()
			if i%20 == 19 {
				b.crashes(r)
				b.sound()
			}
		}
		b.deletesAll()
		b.counts(0, 0)
	}
}

// TestSoundEachWrite: the power goes at each write and flush of a story, of which the disk keeps nothing, the first, or the last that was written.
func TestSoundEachWrite(t *testing.T) {
	for n := 0; ; n++ {
		ended := false
		for _, pick := range []int{0, 1, -1} {
			b := laidWith(t, 100, 64)
			b.is("Cut", b.d.Cut(n), api.OK)
			ended = b.story()
			b.sound()
			b.d.Crash(slices.Repeat([]int{pick}, 200))
			b.opens()
			b.sound()
			b.deletesAll()
			b.counts(0, 0)
		}
		if ended {
			return
		}
		if n > 1000 {
			t.Fatal("the story has no end")
		}
	}
}

// story is one with all that volumes and the collector do: whether the disk took all of it.
func (b *bench) story() bool {
	b.v.Create(50, 50)
	for at := range 4 {
		b.v.Write(1, 8*at, make([]byte, 512), at == 2)
	}
	b.v.Snapshot(1)
	b.v.Write(2, 4, make([]byte, 128), false)
	b.v.Unmap(1, 20, 5)
	b.v.Create(9, 9)
	b.v.Write(3, 0, make([]byte, 512), false)
	b.v.Delete(1)
	b.v.Delete(3)
	for range 30 {
		sweep.Step(b.v)
	}
	return b.v.Sync() == api.OK
}

// TestReportAlike: what two looks tell of one pool is alike, however often it is looked at.
func TestReportAlike(t *testing.T) {
	b := mixed(t)
	want := b.look()
	for range 50 {
		if got, e := check.Look(b.v); e != api.OK || !same(got, want) {
			t.Fatalf("Look = %v, %v, not %v", got, e, want)
		}
	}
}
