package sweep_test

import (
	"math/rand/v2"
	"slices"
	"testing"

	"polder/api"
	"polder/sweep"
)

// ready is a pool with a small log, that steps go round, and with dying volumes that share some of their nodes with live ones, all of it synced.
func ready(t *testing.T) *bench {
	t.Helper()
	b := laidWith(t, 125, 64)
	b.creates(40)
	b.writes(1, 0, 1, 30)
	b.snapshots(1)
	b.writes(2, 9, 80, 5)
	b.snapshots(2)
	b.unmaps(3, 2, 8)
	b.creates(9)
	b.creates(30)
	b.writes(5, 1, 90, 9)
	b.deletes(1, 4, 3, 5)
	b.syncs()
	return b
}

// whole are the states from a first one on, up to the last, in which there is nothing to do.
func whole(x state) []state {
	l := []state{x}
	for {
		next, more := l[len(l)-1].next()
		if !more {
			return l
		}
		l = append(l, next)
	}
}

// runs does steps till there is nothing to do, or the disk refuses one, with a Sync or a Checkpoint now and then: how many are done, and how many at least are to last.
func (b *bench) runs(every int) (done, lasting int) {
	b.Helper()
	for i := 1; ; i++ {
		more, e := sweep.Step(b.v)
		if e != api.OK {
			if more || e != api.ErrWrite {
				b.Fatalf("Step = %v, %v", more, e)
			}
			return done, lasting
		}
		if !more {
			return done, lasting
		}
		done++
		if done > 16*b.pages+16 {
			b.Fatalf("behind %d steps there is still something to do", done)
		}
		if i%every == 0 && b.v.Sync() == api.OK || i%11 == 0 && b.p.Checkpoint() == api.OK {
			lasting = done
		}
	}
}

// crashes has the power go and come back, and go again while all is opened.
func (b *bench) crashes(r *rand.Rand) {
	b.Helper()
	for again := r.IntN(3); ; again-- {
		picks := slices.Repeat([]int{-1}, r.IntN(1+len(b.d.Dirty()))) // the first ones persist, as they were written last
		for range r.IntN(5) {
			picks = append(picks, r.IntN(9))
		}
		b.d.Crash(picks)
		if again <= 0 {
			break
		}
		b.is("Cut", b.d.Cut(r.IntN(12)), api.OK)
		if e := b.triesToOpen(); e != api.OK && e != api.ErrWrite && e != api.ErrFlush {
			b.Fatalf("opened: %v", e)
		}
	}
	b.opens()
}

// TestResumes: the power goes at any write or flush, whatever the disk keeps, and while all is opened, too: what was committed last that is there is gone on from, to the same end.
func TestResumes(t *testing.T) {
	r := rand.New(rand.NewPCG(16, 4))
	seen := map[int]bool{}
	for every := 2; every < 9; every++ {
		for n := 0; ; n++ {
			at, ended := resumes(t, r, n, every)
			seen[at] = true
			if ended {
				break
			}
		}
	}
	if all := whole(ready(t).state()); len(seen) < len(all)-3 {
		t.Errorf("only %v of %d were seen", seen, len(all))
	}
}

// resumes has the power go behind so many writes and flushes: behind how many steps all is then, and whether all of them were done and synced ahead of it.
func resumes(t *testing.T, r *rand.Rand, n, every int) (int, bool) {
	t.Helper()
	b := ready(t)
	all := whole(b.state())
	b.is("Cut", b.d.Cut(n), api.OK)
	done, lasting := b.runs(every)
	b.stays(all[done])
	ended := done == len(all)-1 && b.v.Sync() == api.OK
	if ended {
		lasting = done
	}
	b.crashes(r)
	now := b.state()
	at := slices.IndexFunc(all, now.is)
	if at < lasting || at > done {
		t.Fatalf("behind %d writes and flushes, %d steps, of which %d last: all is as behind %d", n, done, lasting, at)
	}
	b.sound()
	b.readsAll()
	for _, want := range all[at+1:] {
		if more, e := sweep.Step(b.v); !more || e != api.OK {
			t.Fatalf("Step = %v, %v", more, e)
		}
		b.stays(want)
	}
	b.rests()
	b.swept()
	b.readsAll()
	return at, ended
}

// TestResumesAgain: the power goes again and again, behind every few steps; it comes to the same end.
func TestResumesAgain(t *testing.T) {
	r := rand.New(rand.NewPCG(16, 5))
	for range 30 {
		b := ready(t)
		all := whole(b.state())
		at, crashes := 0, 0
		for at < len(all)-1 {
			b.is("Cut", b.d.Cut(r.IntN(30)), api.OK)
			done, lasting := b.runs(2)
			b.crashes(r)
			now := b.state()
			found := slices.IndexFunc(all, now.is)
			if found < at+lasting || found > at+done {
				t.Fatalf("from %d on %d steps, of which %d last: all is as behind %d", at, done, lasting, found)
			}
			at = found
			crashes++
		}
		if crashes < 2 {
			t.Errorf("%d crashes", crashes)
		}
		b.rests()
		b.swept()
		b.readsAll()
	}
}

// TestOpenedAnew: what was synced is gone on from when all is opened anew, at each step.
func TestOpenedAnew(t *testing.T) {
	b := ready(t)
	for more := true; more; {
		b.syncs()
		was := b.state()
		b.opens()
		b.stays(was)
		b.d.Crash(nil)
		b.opens()
		b.stays(was)
		more = b.steps()
		b.readsAll()
	}
	b.swept()
}

// TestPlaceTaken: a place that was taken again ahead of the crash has its new volume behind it, and what the old one had is given back all the same.
func TestPlaceTaken(t *testing.T) {
	for steps := 1; steps < 12; steps++ {
		b := ready(t)
		for range steps {
			b.steps()
		}
		id := b.creates(20) // synced, with all ahead of it
		was := b.state()
		_, e := b.v.Write(id, 0, blocks(1, 1), false) // which is to be lost
		b.is("Write", e, api.OK)
		b.d.Crash(nil)
		b.opens()
		b.stays(was)
		b.readsAll()
		b.writes(id, 3, 300, 6)
		b.ends()
	}
}
