package alloc_test

import (
	"bytes"
	"math"
	"math/rand/v2"
	"slices"
	"testing"
)

// chapter is a map of pages told once more: a letter for each, a dash: free; t: taken; d: dropped.
type chapter struct{ pages, settled []byte }

func newChapter(n int) *chapter {
	return &chapter{[]byte(all("-", n)), []byte(all("-", n))}
}

// is tells whether a page is as a letter has it.
func (c *chapter) is(p int, letter byte) bool {
	return p >= 0 && p < len(c.pages) && c.pages[p] == letter
}

// becomes has a page go over from one letter to another one, and tells whether it did.
func (c *chapter) becomes(p int, from, to byte) bool {
	if !c.is(p, from) {
		return false
	}
	c.pages[p] = to
	return true
}

// take takes the least one that is free.
func (c *chapter) take() (int, bool) {
	p := bytes.IndexByte(c.pages, '-')
	if p < 0 {
		return 0, false
	}
	return p, c.becomes(p, '-', 't')
}

func (c *chapter) settle() {
	c.pages = bytes.ReplaceAll(c.pages, []byte("d"), []byte("-"))
	c.settled = slices.Clone(c.pages)
}

func (c *chapter) undo() { c.pages = slices.Clone(c.settled) }

// state is all that later answers hang on.
func (c *chapter) state() string { return string(c.pages) + string(c.settled) }

// The calls that change something.
const (
	callMark = iota
	callDrop
	callTake
	callSettle
	callUndo
)

// call is one of them, of a page.
type call struct{ kind, p int }

// does has it done by both, whose answers are to be one.
func (x call) does(b *bench, c *chapter) {
	b.Helper()
	switch x.kind {
	case callMark:
		b.marks(x.p, c.becomes(x.p, '-', 't'))
	case callDrop:
		b.drops(x.p, c.becomes(x.p, 't', 'd'))
	case callTake:
		if p, ok := c.take(); ok {
			b.takes(p)
		} else {
			b.takesNone()
		}
	case callSettle:
		b.a.Settle()
		c.settle()
	case callUndo:
		b.a.Undo()
		c.undo()
	}
}

// calls are all of a map of so many pages, with those of a page on either side of them.
func calls(n int) []call {
	l := []call{{callTake, 0}, {callSettle, 0}, {callUndo, 0}}
	for p := -1; p <= n; p++ {
		l = append(l, call{callMark, p}, call{callDrop, p})
	}
	return l
}

// replay is a map, and the chapter, behind some calls.
func replay(t *testing.T, n int, path []call) (*bench, *chapter) {
	t.Helper()
	b, c := laid(t, n), newChapter(n)
	for _, x := range path {
		x.does(b, c)
	}
	return b, c
}

// ways are paths, a shortest one to each state in which a map of so many pages may be.
func ways(t *testing.T, n int) [][]call {
	t.Helper()
	_, c := replay(t, n, nil)
	seen := map[string]bool{c.state(): true}
	paths := [][]call{nil}
	for at := 0; at < len(paths); at++ {
		for _, x := range calls(n) {
			path := append(slices.Clone(paths[at]), x)
			if _, c := replay(t, n, path); !seen[c.state()] {
				seen[c.state()] = true
				paths = append(paths, path)
			}
		}
	}
	return paths
}

// TestStates: in each state in which a small map may be, any two calls answer what the chapter has, and leave what it leaves.
func TestStates(t *testing.T) {
	for n := 1; n <= 3; n++ {
		for _, path := range ways(t, n) {
			for _, one := range calls(n) {
				b, c := replay(t, n, append(slices.Clone(path), one))
				b.tells(told(string(c.pages)))
				for _, other := range calls(n) {
					b, c := replay(t, n, append(slices.Clone(path), one, other))
					b.tells(told(string(c.pages)))
				}
				if t.Failed() {
					t.Fatalf("%d pages, %v, %v", n, path, one)
				}
			}
		}
	}
}

// randomCall is any one; takes or drops are the more of them, by turns, so that a map is filled and emptied.
func randomCall(r *rand.Rand, n, turn int) call {
	p := r.IntN(n)
	switch r.IntN(40) {
	case 0:
		p = []int{-1, -n, n, n + 1, -64, n + 64, math.MaxInt, math.MinInt}[r.IntN(8)]
	case 1:
		p = []int{0, n - 1, 63 % n, 64 % n}[r.IntN(4)]
	}
	switch k := r.IntN(100); {
	case k == 0:
		return call{callUndo, 0}
	case k < 3:
		return call{callSettle, 0}
	case k < 20:
		return call{callMark, p}
	case k < 40:
		return call{callDrop, p}
	case turn%2 == 0:
		return call{callTake, 0}
	default:
		return call{callDrop, p}
	}
}

// TestChapter: calls in any order answer what the chapter has, and leave what it leaves.
func TestChapter(t *testing.T) {
	for _, n := range sizes() {
		r := rand.New(rand.NewPCG(uint64(n), 80))
		b, c := laid(t, n), newChapter(n)
		for i := range 6000 {
			randomCall(r, n, i/(2*n+10)).does(b, c)
			if n < 200 || i%16 == 0 {
				b.tells(told(string(c.pages)))
			}
			if t.Failed() {
				t.Fatalf("%d pages, call %d", n, i)
			}
		}
		b.tells(told(string(c.pages)))
	}
}
