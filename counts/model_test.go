package counts_test

import (
	"maps"
	"math/rand/v2"
	"testing"

	"polder/api"
)

// chapter is counts told once more: what they are, and what an Undo goes back to.
type chapter struct {
	pages    int
	now, was listed
}

func newChapter(pages int) *chapter { return &chapter{pages, listed{}, listed{}} }

// add is Add.
func (c *chapter) add(p, by int) api.Errno {
	if p < 0 || p >= c.pages {
		return api.ErrRange
	}
	if n := c.now[p] + by; n < 0 || n > 1000 {
		return api.ErrCount
	}
	c.now[p] += by
	return api.OK
}

// load is Load of the body of a list.
func (c *chapter) load(i int, l listed) api.Errno {
	if i < 0 || i >= many(c.pages) {
		return api.ErrRange
	}
	for p := 120 * i; p < 120*i+120; p++ {
		if l[p] > 1000 || p >= c.pages && l[p] > 0 {
			return api.ErrImage
		}
	}
	for p := 120 * i; p < 120*i+120; p++ {
		c.now[p], c.was[p] = l[p], l[p]
	}
	return api.OK
}

// touched is Touched.
func (c *chapter) touched() []int {
	var l []int
	for i := range many(c.pages) {
		for p := 120 * i; p < 120*i+120; p++ {
			if c.now[p] != c.was[p] {
				l = append(l, i)
				break
			}
		}
	}
	return l
}

// The calls that change something.
const (
	callAdd = iota
	callLoad
	callSettle
	callUndo
)

// call is one of them; l: of a Load.
type call struct {
	kind, at, by int
	l            listed
}

// does has it done by both, whose answers are to be one.
func (x call) does(b *bench, c *chapter) {
	b.Helper()
	switch x.kind {
	case callAdd:
		b.adding(x.at, x.by, c.add(x.at, x.by))
	case callLoad:
		b.loading(x.at, bodyOf(x.l, x.at), c.load(x.at, x.l))
	case callSettle:
		b.c.Settle()
		c.was = maps.Clone(c.now)
	case callUndo:
		b.c.Undo()
		c.now = maps.Clone(c.was)
	}
}

// like asks whether both are one.
func (b *bench) like(c *chapter) {
	b.Helper()
	b.tells(c.now)
	b.touched(c.touched()...)
}

// fewCalls are some of 121 pages, about the border between their two pages of counts; what one of them does another one undoes, or does once more.
func fewCalls() []call {
	return []call{
		{kind: callAdd, at: 119, by: 1},
		{kind: callAdd, at: 119, by: -1},
		{kind: callAdd, at: 120, by: 1000},
		{kind: callAdd, at: 120, by: -1000},
		{kind: callLoad, at: 0, l: listed{119: 1}},
		{kind: callLoad, at: 1, l: listed{120: 1000}},
		{kind: callLoad, at: 1, l: listed{120: 1, 121: 1}},
		{kind: callSettle},
		{kind: callUndo},
	}
}

// TestPaths: any five of a few calls, one behind the other, answer what the chapter has, and leave what it leaves.
func TestPaths(t *testing.T) {
	l := fewCalls()
	total := 1
	for range 5 {
		total *= len(l)
	}
	for path := range total {
		b, c := laid(t, 121), newChapter(121)
		for rest, n := path, 0; n < 5; n++ {
			l[rest%len(l)].does(b, c)
			rest /= len(l)
		}
		b.like(c)
		b.c.Undo()
		b.tells(c.was)
		if t.Failed() {
			t.Fatalf("path %d", path)
		}
	}
}

// randomList is what a page of counts might tell; now and then what it may not.
func randomList(r *rand.Rand, pages, i int) listed {
	l := listed{}
	for range r.IntN(30) {
		if p := 120*i + r.IntN(120); p < pages {
			l[p] = r.IntN(1001)
		}
	}
	switch r.IntN(10) {
	case 0:
		l[120*i+r.IntN(120)] = 1001 + r.IntN(64000)
	case 1:
		l[120*i+119-r.IntN(20)] = 1
	}
	return l
}

// randomCall is any one; some of the pages come often, so that counts come back to what they were.
func randomCall(r *rand.Rand, pages int) call {
	switch k := r.IntN(100); {
	case k < 4:
		return call{kind: callUndo}
	case k < 8:
		return call{kind: callSettle}
	case k < 16:
		i := r.IntN(many(pages)+2) - 1
		return call{kind: callLoad, at: i, l: randomList(r, pages, i)}
	case k < 50:
		return call{kind: callAdd, at: []int{0, 1, min(119, pages-1), min(120, pages-1), pages - 1}[r.IntN(5)], by: r.IntN(3) - 1}
	default:
		return call{kind: callAdd, at: r.IntN(pages+4) - 2, by: r.IntN(1003) - 501}
	}
}

// TestChapter: calls in any order answer what the chapter has, and leave what it leaves.
func TestChapter(t *testing.T) {
	for _, pages := range sizes() {
		r := rand.New(rand.NewPCG(uint64(pages), 90))
		b, c := laid(t, pages), newChapter(pages)
		for i := range 4000 {
			randomCall(r, pages).does(b, c)
			if pages < 300 || i%16 == 0 {
				b.like(c)
			}
			if t.Failed() {
				t.Fatalf("%d pages, call %d", pages, i)
			}
		}
		b.like(c)
	}
}
