package alloc_test

import (
	"math"
	"slices"
	"strings"
	"testing"

	"polder/alloc"
	"polder/api"
)

// bench is a map of pages in a test. What it tells is told by letters, one a page: a dash where it is free, and an x where it is not.
type bench struct {
	*testing.T
	a *alloc.Alloc
	n int
}

// laid is a new map of so many pages.
func laid(t *testing.T, n int) *bench {
	t.Helper()
	b := &bench{t, alloc.New(n), n}
	if b.a == nil {
		t.Fatalf("New(%d) = nil", n)
	}
	return b
}

// taken is one of which so many pages, from the first on, are taken.
func taken(t *testing.T, n, count int) *bench {
	t.Helper()
	b := laid(t, n)
	for p := range count {
		b.takes(p)
	}
	return b
}

// with is a map of which each page is as its letter has it: a dash: free; t: taken; d: dropped.
func with(t *testing.T, letters string) *bench {
	t.Helper()
	b := laid(t, len(letters))
	for p, letter := range []byte(letters) {
		if letter != '-' {
			b.marks(p, true)
		}
		if letter == 'd' {
			b.drops(p, true)
		}
	}
	return b
}

// told is what such a map tells: a dropped page is not free.
func told(letters string) string {
	return strings.NewReplacer("t", "x", "d", "x").Replace(letters)
}

// marks marks a page.
func (b *bench) marks(p int, want bool) {
	b.Helper()
	if got := b.a.Mark(p); got != want {
		b.Errorf("Mark(%d) = %v", p, got)
	}
}

// takes takes pages, and asks which ones they are.
func (b *bench) takes(want ...int) {
	b.Helper()
	for _, p := range want {
		if got, ok := b.a.Take(); got != p || !ok {
			b.Errorf("Take = %d, %v, not %d, true", got, ok, p)
		}
	}
}

// takesNone asks for a page where none is free.
func (b *bench) takesNone() {
	b.Helper()
	if got, ok := b.a.Take(); got != 0 || ok {
		b.Errorf("Take = %d, %v, not 0, false", got, ok)
	}
}

// drops drops a page.
func (b *bench) drops(p int, want bool) {
	b.Helper()
	if got := b.a.Drop(p); got != want {
		b.Errorf("Drop(%d) = %v", p, got)
	}
}

// runs are those of letters, one page after the other.
func runs(letters string) []api.Entry {
	var l []api.Entry
	for p := range len(letters) {
		switch {
		case letters[p] != '-':
		case p > 0 && letters[p-1] == '-':
			l[len(l)-1].Val++
		default:
			l = append(l, api.Entry{Key: p, Val: 1})
		}
	}
	return l
}

// tells asks for all that a map tells.
func (b *bench) tells(letters string) {
	b.Helper()
	if len(letters) != b.n {
		b.Fatalf("%d letters for %d pages", len(letters), b.n)
	}
	if got, want := b.a.Free(), strings.Count(letters, "-"); got != want {
		b.Errorf("Free = %d, not %d", got, want)
	}
	for p := range b.n {
		if got := b.a.IsFree(p); got != (letters[p] == '-') {
			b.Errorf("IsFree(%d) = %v", p, got)
		}
	}
	for _, p := range noPages(b.n) {
		if b.a.IsFree(p) {
			b.Errorf("IsFree(%d) = true of %d pages", p, b.n)
		}
	}
	if got, want := b.a.Runs(), runs(letters); !slices.Equal(got, want) {
		b.Errorf("Runs = %v, not %v", got, want)
	}
}

// all is so many letters of one kind.
func all(letter string, n int) string { return strings.Repeat(letter, n) }

// sizes are numbers of pages about the words' borders, and at the ends of what may be.
func sizes() []int {
	return []int{1, 2, 5, 16, 63, 64, 65, 127, 128, 129, 191, 192, 193, 1000, 1023, api.MaxPages}
}

// noPages are numbers of which a map of so many pages has none; what lies behind it within its last word, what is the remainder of a page's by 2^16 or 2^32, and the ends are among them.
func noPages(n int) []int {
	l := []int{math.MinInt, math.MinInt + 1, math.MinInt + 64, -1 << 32, -1<<32 + 1, -1 << 16, -n - 1, -n, -n + 1 - 64, -128, -65, -64, -63, -2, -1,
		n, n + 1, n + 2, n + 62, n + 63, n + 64, n + 65, 2 * n, 4096, 1 << 16, 1<<16 + n - 1, 1 << 32, 1<<32 + n - 1, 1 << 62, math.MaxInt - 64, math.MaxInt - 1, math.MaxInt}
	for p := n; p%64 != 0; p++ {
		l = append(l, p)
	}
	return l
}

func TestExamples(t *testing.T) {
	if alloc.New(0) != nil || alloc.New(1025) != nil {
		t.Error("New(0) or New(1025) is a map")
	}
	b := laid(t, 5)
	b.takes(0, 1)
	b.marks(3, true)
	b.marks(3, false)
	b.tells("xx-x-")
	if got := b.a.Runs(); !slices.Equal(got, []api.Entry{{Key: 2, Val: 1}, {Key: 4, Val: 1}}) {
		t.Errorf("Runs = %v", got)
	}
	b.drops(0, true)
	b.drops(0, false)
	b.drops(2, false)
	b.takes(2)
	b.marks(-1, false)
	b.drops(5, false)
	b.a.Settle()
	b.tells("-xxx-")
	b.takes(0)
	b.tells("xxxx-")
}

// TestExampleUndo: the examples once more, with an Undo where the Settle was.
func TestExampleUndo(t *testing.T) {
	b := laid(t, 5)
	b.takes(0, 1)
	b.marks(3, true)
	b.drops(0, true)
	b.takes(2)
	b.a.Undo()
	if got := b.a.Free(); got != 5 || !b.a.IsFree(0) {
		t.Errorf("behind Undo %d are free", got)
	}
	b.tells("-----")
}

// TestNew: as many pages as are asked for, all free; more than may be, or none, are no map.
func TestNew(t *testing.T) {
	for _, n := range sizes() {
		laid(t, n).tells(all("-", n))
	}
	for n := range 1200 {
		if got := alloc.New(n); (got != nil) != (n >= 1 && n <= 1024) {
			t.Errorf("New(%d) = %v", n, got)
		}
	}
	for _, n := range []int{-1, -2, -64, -1024, math.MinInt, math.MinInt + 1, -1 << 32, -1<<32 + 5, 1 << 16, 1 << 20, 1 << 31, 1 << 32, 1<<32 + 5, 1 << 40, 1 << 62, math.MaxInt - 63, math.MaxInt - 1, math.MaxInt} {
		if alloc.New(n) != nil {
			t.Errorf("New(%d) is a map", n)
		}
	}
}

// TestNewSettled: as New has it, it is settled.
func TestNewSettled(t *testing.T) {
	for _, n := range sizes() {
		b := laid(t, n)
		b.a.Undo()
		b.tells(all("-", n))
		b.marks(n-1, true)
		b.a.Undo()
		b.tells(all("-", n))
		b.a.Settle()
		b.tells(all("-", n))
		b.drops(0, false)
	}
}

// TestApart: what is done to one map is not done to another one.
func TestApart(t *testing.T) {
	one, other := laid(t, 70), laid(t, 70)
	one.takes(0, 1, 2)
	one.drops(1, true)
	other.marks(69, true)
	other.a.Settle()
	one.tells("xxx" + all("-", 67))
	other.tells(all("-", 69) + "x")
	other.a.Undo()
	other.tells(all("-", 69) + "x")
	one.a.Settle()
	one.tells("x-x" + all("-", 67))
	other.tells(all("-", 69) + "x")
	laid(t, 70).tells(all("-", 70))
}

// TestMark: of each page, in whatever order, whether it is free; it alone is taken then.
func TestMark(t *testing.T) {
	for _, n := range sizes() {
		b := laid(t, n)
		letters := []byte(all("-", n))
		for i := range n {
			p := i * 37 % n // each page once, as no size has the factor 37
			b.marks(p, true)
			b.marks(p, false)
			letters[p] = 'x'
			if n <= 200 || i%31 == 0 {
				b.tells(string(letters))
			}
		}
		b.tells(all("x", n))
	}
}

// TestMarkEach: page by page, of a map of which all the others are free.
func TestMarkEach(t *testing.T) {
	for _, n := range []int{1, 63, 64, 65, 130} {
		for p := range n {
			b := laid(t, n)
			b.marks(p, true)
			b.tells(all("-", p) + "x" + all("-", n-p-1))
			b.marks(p, false)
			b.tells(all("-", p) + "x" + all("-", n-p-1))
			b.drops(p, true)
			b.marks(p, false)
			b.tells(all("-", p) + "x" + all("-", n-p-1))
		}
	}
}

// TestNoPage: of no page Mark, Drop and IsFree are false, and nothing changes by them, neither now nor at the next Settle or Undo.
func TestNoPage(t *testing.T) {
	for _, n := range sizes() {
		for _, c := range []struct{ letter, now, settled string }{{"-", "-", "-"}, {"t", "x", "x"}, {"d", "x", "-"}} {
			b := with(t, all(c.letter, n))
			refused := func(told string) {
				t.Helper()
				for _, p := range noPages(n) {
					b.marks(p, false)
					b.drops(p, false)
				}
				b.tells(all(told, n))
			}
			refused(c.now)
			b.a.Settle()
			b.tells(all(c.settled, n))
			refused(c.settled)
			b.a.Undo()
			b.tells(all(c.settled, n))
			refused(c.settled)
			b.a.Settle()
			b.tells(all(c.settled, n))
		}
	}
}

// TestTake: the least page first, one after the other, till none is free; then none, as often as one likes.
func TestTake(t *testing.T) {
	for _, n := range sizes() {
		b := laid(t, n)
		for p := range n {
			b.takes(p)
			if n <= 200 || p%31 == 0 {
				b.tells(all("x", p+1) + all("-", n-p-1))
			}
		}
		b.takesNone()
		b.takesNone()
		b.tells(all("x", n))
		b.a.Settle()
		b.takesNone()
		b.a.Undo()
		b.takesNone()
		b.tells(all("x", n))
	}
}

// TestTakeDropped: from a map whose pages all are dropped, none.
func TestTakeDropped(t *testing.T) {
	for _, n := range sizes() {
		b := with(t, all("d", n))
		b.takesNone()
		b.tells(all("x", n))
		b.a.Settle()
		b.tells(all("-", n))
		b.takes(0)
		b.tells("x" + all("-", n-1))
	}
}

// TestTakeOne: the one page that is free, wherever it is.
func TestTakeOne(t *testing.T) {
	for _, n := range []int{1, 2, 63, 64, 65, 127, 128, 129, 1024} {
		for _, p := range []int{0, 1, 31, 32, 62, 63, 64, 65, 126, 127, 128, 1022, 1023} {
			if p >= n {
				continue
			}
			for _, letter := range []string{"t", "d"} {
				b := with(t, all(letter, p)+"-"+all(letter, n-p-1))
				b.takes(p)
				b.takesNone()
				b.tells(all("x", n))
			}
		}
	}
}

// TestTakeLeast: pages that were marked are passed by; those that are free again, below the one that was taken last, come first.
func TestTakeLeast(t *testing.T) {
	b := laid(t, 130)
	for _, p := range []int{0, 2, 3, 64, 65, 128} {
		b.marks(p, true)
	}
	b.takes(1, 4, 5)
	for p := 6; p < 128; p++ {
		if p != 64 && p != 65 {
			b.takes(p)
		}
	}
	b.takes(129)
	b.takesNone()
	for _, p := range []int{129, 100, 65, 63, 7} {
		b.drops(p, true)
		b.takesNone()
	}
	b.a.Settle()
	b.takes(7, 63, 65)
	b.drops(3, true)
	b.takes(100)
	b.a.Settle()
	b.takes(3, 129)
	b.takesNone()
}
