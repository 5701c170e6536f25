package ranges_test

import (
	"maps"
	"math/rand/v2"
	"slices"
	"testing"

	"polder/api"
	"polder/codec"
)

// notes lays the stack down in the catalogue, in a transaction that is under way.
func (b *bench) notes() {
	b.Helper()
	body, e := codec.PutCatalogue(api.Catalogue{Next: 1, Volumes: make([]api.Volume, 8), Stack: b.stack})
	b.is("PutCatalogue", e, api.OK)
	b.is("Write", b.p.Write(0, api.Page{Kind: api.KindCatalogue, Body: body}), api.OK)
}

// recalls is the stack that was laid down last.
func (b *bench) recalls() {
	b.Helper()
	page, e := b.p.Read(0)
	c, ok := codec.GetCatalogue(page.Body)
	if e != api.OK || !ok {
		b.Fatalf("no catalogue: %v", e)
	}
	b.stack = c.Stack
}

// felled is a pool in which one of two trees that share some nodes is on the stack, all of it synced.
func felled(t *testing.T, many int) *bench {
	t.Helper()
	b := laid(t, 250)
	x := b.plants(mixed(many)...)
	y := b.copies(x)
	b.does(func() { b.put(y, 77, b.fresh(data(1))) })
	b.does(func() { b.cut(y, 150, 300, 2) })
	b.gives(x)
	b.does(b.notes)
	b.is("Sync", b.p.Sync(), api.OK)
	return b
}

// TestGoesOn: behind each step the power goes; the felling goes on from the stack as it was synced with the pool's pages.
func TestGoesOn(t *testing.T) {
	for every := 1; every <= 4; every++ {
		b := felled(t, 40)
		nodes := len(b.nodes(b.stack[0]))
		synced := 0
		for i := 0; len(b.stack) > 0; i++ {
			b.does(func() { b.fell(); b.notes() })
			if i%every == 0 {
				b.is("Sync", b.p.Sync(), api.OK)
				synced++
			}
			b.d.Crash(nil)
			b.opens()
			b.recalls()
			b.sound()
			if i > 1000 {
				t.Fatal("it does not end")
			}
		}
		if synced > 2*nodes {
			t.Errorf("%d steps of %d nodes", synced, nodes)
		}
		b.scans(b.trees[0], least, most, most)
		b.gives(b.trees[0])
		b.fellsAll()
		b.empty()
	}
}

// TestPrefix: the power goes at any write or flush of a felling, and anything of what was written since the last flush persists: the pool is as behind some number of the steps, and goes on to the same end.
func TestPrefix(t *testing.T) {
	r := rand.New(rand.NewPCG(13, 7))
	seen := map[int]bool{}
	for cut := 0; ; cut++ {
		b := felled(t, 24)
		m := maps.Clone(b.trees[0].m)
		states, synced := []state{b.state()}, 0
		b.is("Cut", b.d.Cut(cut), api.OK)
		for i := 0; len(b.stack) > 0; i++ {
			stack := b.stack
			b.begins()
			b.fell()
			b.notes()
			if b.p.Commit() != api.OK {
				b.stack = stack
				break
			}
			states = append(states, b.state())
			if i%5 == 4 && b.p.Sync() == api.OK {
				synced = i + 1
			}
		}
		whole := len(b.stack) == 0 && b.p.Sync() == api.OK
		picks := slices.Repeat([]int{-1}, r.IntN(1+len(b.d.Dirty())))
		for range r.IntN(4) {
			picks = append(picks, r.IntN(9))
		}
		b.d.Crash(picks)
		b.opens()
		now := b.state()
		k := slices.IndexFunc(states, func(x state) bool { return alike(x, now) })
		if k < synced {
			t.Fatalf("cut %d: the pool is as behind %d steps; %d were synced", cut, k, synced)
		}
		seen[k] = true
		b.recalls()
		b.sound()
		b.fellsAll()
		if b.trees[0].m = m; len(b.stack) > 0 {
			t.Errorf("the stack is %v", b.stack)
		}
		b.sound()
		if whole {
			break
		}
	}
	if len(seen) < 5 {
		t.Errorf("only %v were seen", seen)
	}
}
