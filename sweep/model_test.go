package sweep_test

import (
	"math/rand/v2"
	"slices"
	"testing"

	"polder/api"
)

// live are the IDs of the live volumes, rising.
func (b *bench) live() []int {
	var ids []int
	for id := range b.told {
		ids = append(ids, id)
	}
	slices.Sort(ids)
	return ids
}

// hasPlace tells whether one more volume may be made.
func (b *bench) hasPlace() bool {
	return slices.ContainsFunc(b.v.Catalogue().Volumes, func(x api.Volume) bool { return x.State == api.VolumeNone })
}

// asks asks for a call of a volume, by chance.
func (b *bench) asks(r *rand.Rand, id, i int) {
	b.Helper()
	size := len(b.told[id]) / 64
	count := 1 + r.IntN(min(8, size))
	at := r.IntN(size - count + 1)
	switch k := r.IntN(100); {
	case k < 8 && b.hasPlace():
		b.creates(1 + r.IntN(50))
	case k < 20 && b.hasPlace():
		b.snapshots(id)
	case k < 32 && len(b.told) > 1:
		b.deletes(id)
	case k < 35:
		b.is("Resize", b.v.Resize(id, size+1), api.OK)
		b.told[id] = append(b.told[id], make([]byte, 64)...)
	case k < 38:
		b.checkpoint()
	case k < 41:
		b.syncs()
		b.opens()
	case k < 60:
		b.unmaps(id, at, count)
	default:
		b.writes(id, at, i, count)
	}
}

// TestAmong: steps among whatever else is asked, in any order: each is the one that the chapter tells, live volumes are as they were, and counts are right; in the end all is given back.
func TestAmong(t *testing.T) {
	for seed := range uint64(2) {
		r := rand.New(rand.NewPCG(16, seed))
		b := laid(t, 480)
		b.creates(40)
		worked := 0
		for i := range 700 {
			ids := b.live()
			b.asks(r, ids[r.IntN(len(ids))], i)
			for range r.IntN(4) {
				if b.steps() {
					worked++
				}
			}
			if i%5 == 0 {
				b.sound()
				b.readsAll()
			}
			if i%150 == 149 {
				b.ends()
			}
		}
		if worked < 150 {
			t.Errorf("seed %d: %d steps had something to do", seed, worked)
		}
		b.deletes(b.live()...)
		b.ends()
		if b.p.Free() != 480-firstPages(480) {
			t.Errorf("%d pages are free", b.p.Free())
		}
	}
}

// TestNotSeen: while a volume is given back, its origin, its snapshots and those that share nothing with it are written to and read: each has its own.
func TestNotSeen(t *testing.T) {
	for dying := 1; dying <= 4; dying++ {
		for pause := range 3 {
			b := laid(t, 400)
			b.creates(60)
			b.writes(1, 0, 1, 50)
			b.snapshots(1)
			b.writes(2, 5, 100, 9)
			b.snapshots(2)
			b.writes(3, 30, 200, 20)
			b.creates(20)
			b.writes(4, 3, 300, 15)
			b.deletes(dying)
			for i := 0; ; i++ {
				if pause > 0 && i%pause == 0 {
					for id := 1; id <= 4; id++ {
						if id != dying {
							b.writes(id, (7*i+id)%15, 400+i, 3)
							b.unmaps(id, (5*i+id)%18, 2)
						}
					}
				}
				more := b.steps()
				b.sound()
				b.readsAll()
				if !more {
					break
				}
			}
			b.swept()
		}
	}
}
