package counts_test

import (
	"bytes"
	"maps"
	"math"
	"slices"
	"testing"

	"polder/api"
	"polder/counts"
)

// bench is counts in a test.
type bench struct {
	*testing.T
	c     *counts.Counts
	pages int
}

// laid is new counts of so many pages.
func laid(t *testing.T, pages int) *bench {
	t.Helper()
	c, e := counts.New(pages)
	if c == nil || e != api.OK {
		t.Fatalf("New(%d) = %v, %v", pages, c, e)
	}
	return &bench{t, c, pages}
}

// listed is counts by their pages; of all others the count is 0.
type listed map[int]int

// settled is counts that are as a list has them, and settled.
func settled(t *testing.T, pages int, l listed) *bench {
	t.Helper()
	b := laid(t, pages)
	b.addsAll(l)
	b.c.Settle()
	return b
}

// adds adds to a page's count.
func (b *bench) adds(p, by int) {
	b.Helper()
	b.adding(p, by, api.OK)
}

// addsAll adds to counts as a list has it.
func (b *bench) addsAll(l listed) {
	b.Helper()
	for _, p := range slices.Sorted(maps.Keys(l)) {
		b.adds(p, l[p])
	}
}

// adding asks what an Add answers.
func (b *bench) adding(p, by int, want api.Errno) {
	b.Helper()
	if e := b.c.Add(p, by); e != want {
		b.Errorf("Add(%d, %d) = %v, not %v", p, by, e, want)
	}
}

// loads loads a page of counts.
func (b *bench) loads(i int, body []byte) {
	b.Helper()
	b.loading(i, body, api.OK)
}

// loading asks what a Load answers.
func (b *bench) loading(i int, body []byte, want api.Errno) {
	b.Helper()
	if e := b.c.Load(i, body); e != want {
		b.Errorf("Load(%d, %d bytes) = %v, not %v", i, len(body), e, want)
	}
}

// touched asks which pages of counts are.
func (b *bench) touched(want ...int) {
	b.Helper()
	if got := b.c.Touched(); !slices.Equal(got, want) {
		b.Errorf("Touched = %v, not %v", got, want)
	}
}

// tells asks for all counts, one by one and in their bodies.
func (b *bench) tells(l listed) {
	b.Helper()
	for p := range b.pages {
		if got := b.c.Get(p); got != l[p] {
			b.Errorf("Get(%d) = %d, not %d", p, got, l[p])
		}
	}
	for i := range many(b.pages) {
		if got, want := b.c.Body(i), bodyOf(l, i); !bytes.Equal(got, want) {
			b.Errorf("Body(%d) = %v, not %v", i, got, want)
		}
	}
}

// many is how many pages of counts it takes, one after the other.
func many(pages int) int {
	n := 0
	for first := 0; first < pages; first += 120 {
		n++
	}
	return n
}

// bodyOf is a page of counts as bytes: of each two, the higher one first.
func bodyOf(l listed, i int) []byte {
	body := make([]byte, 0, 240)
	for p := 120 * i; p < 120*i+120; p++ {
		body = append(body, byte(l[p]/256), byte(l[p]%256))
	}
	return body
}

// sizes are numbers of pages about the borders of pages of counts, and at the ends of what may be.
func sizes() []int {
	return []int{16, 17, 119, 120, 121, 130, 239, 240, 241, 959, 960, 961, 1023, 1024}
}

// noPages are numbers of which there is no page among so many: the places that the last page of counts has for no page, what is a page's by its remainder by 2^16 or 2^32, and the ends are among them.
func noPages(pages int) []int {
	l := []int{math.MinInt, math.MinInt + 1, math.MinInt + 120, -1 << 32, -1<<32 + 1, -1 << 16, -pages - 1, -pages, 1 - pages - 120, -121, -120, -119, -2, -1,
		pages, pages + 1, 120 * many(pages), 120*many(pages) + 1, 2 * pages, 1 << 16, 1<<16 + pages - 1, 1 << 32, 1<<32 + pages - 1, math.MaxInt - 1, math.MaxInt}
	for p := pages; p%120 != 0; p++ {
		l = append(l, p)
	}
	return l
}

// noParts are numbers of which there is no page of counts; among them such whose first page's number would wrap round to 0 and to 120.
func noParts(pages int) []int {
	n := many(pages)
	return []int{math.MinInt, math.MinInt + 1, -1 << 61, -1<<61 + 1, -1 << 32, -n - 1, -n, -2, -1,
		n, n + 1, 2 * n, 120, 1024, 1 << 32, 1<<32 + 1, 1 << 61, 1<<61 + 1, math.MaxInt - 1, math.MaxInt}
}

func TestExamples(t *testing.T) {
	if got := counts.Many(130); got != 2 {
		t.Errorf("Many(130) = %d", got)
	}
	b := laid(t, 130)
	b.adds(5, 3)
	b.adding(5, -4, api.ErrCount)
	b.adding(5, 998, api.ErrCount)
	b.adding(130, 1, api.ErrRange)
	b.tells(listed{5: 3})
	b.touched(0)
	b.c.Undo()
	b.tells(nil)
	b.touched()
	b.adds(125, 1)
	b.c.Settle()
	b.adds(125, 1)
	b.touched(1)
	b.adds(125, -1)
	b.touched()
	b.loading(2, make([]byte, 240), api.ErrRange)
	b.loading(0, make([]byte, 239), api.ErrImage)
	b.tells(listed{125: 1})
}

// TestMany: 120 pages each, rounded up; none of a number that may not be.
func TestMany(t *testing.T) {
	for _, c := range []struct{ pages, want int }{
		{math.MinInt, 0}, {math.MinInt + 1, 0}, {-1 << 32, 0}, {-1<<32 + 16, 0}, {-1024, 0}, {-120, 0}, {-16, 0}, {-1, 0}, {0, 0}, {1, 0}, {15, 0},
		{16, 1}, {17, 1}, {119, 1}, {120, 1}, {121, 2}, {239, 2}, {240, 2}, {241, 3}, {960, 8}, {961, 9}, {1023, 9}, {1024, 9},
		{1025, 0}, {1080, 0}, {1 << 16, 0}, {1<<16 + 16, 0}, {1 << 32, 0}, {1<<32 + 120, 0}, {math.MaxInt - 118, 0}, {math.MaxInt - 1, 0}, {math.MaxInt, 0},
	} {
		if got := counts.Many(c.pages); got != c.want {
			t.Errorf("Many(%d) = %d, not %d", c.pages, got, c.want)
		}
	}
	for pages := range 1200 {
		want := 0
		if pages >= 16 && pages <= 1024 {
			want = many(pages)
		}
		if got := counts.Many(pages); got != want {
			t.Errorf("Many(%d) = %d, not %d", pages, got, want)
		}
	}
}

// TestNew: of 16 to 1024 pages all counts are 0, and none was changed.
func TestNew(t *testing.T) {
	for pages := 16; pages <= 1024; pages++ {
		if c, e := counts.New(pages); c == nil || e != api.OK {
			t.Errorf("New(%d) = %v, %v", pages, c, e)
		}
	}
	for _, pages := range sizes() {
		b := laid(t, pages)
		b.tells(nil)
		b.touched()
		b.c.Undo()
		b.tells(nil)
		b.touched()
		b.c.Settle()
		b.tells(nil)
		b.touched()
		b.adds(pages-1, 2)
		b.c.Settle()
		b.adds(pages-1, 1)
		b.c.Undo()
		b.tells(listed{pages - 1: 2})
	}
}

// TestNewRefused: no counts of fewer pages than 16, nor of more than 1024.
func TestNewRefused(t *testing.T) {
	refused := []int{math.MinInt, math.MinInt + 1, -1 << 32, -1<<32 + 16, -1024, -120, -16, -2, 1025, 1080, 1 << 16, 1<<16 + 16, 1 << 32, 1<<32 + 16, math.MaxInt - 1, math.MaxInt}
	for pages := -1; pages < 16; pages++ {
		refused = append(refused, pages)
	}
	for _, pages := range refused {
		if c, e := counts.New(pages); c != nil || e != api.ErrArg {
			t.Errorf("New(%d) = %v, %v", pages, c, e)
		}
	}
}

// TestEachAlone: what is done to one's counts is not done to another one's.
func TestEachAlone(t *testing.T) {
	one, other := laid(t, 130), laid(t, 130)
	one.adds(3, 5)
	other.adds(125, 7)
	other.c.Settle()
	one.tells(listed{3: 5})
	one.touched(0)
	other.tells(listed{125: 7})
	other.touched()
	one.c.Undo()
	other.c.Undo()
	one.tells(nil)
	other.tells(listed{125: 7})
	one.loads(1, other.c.Body(1))
	one.adds(125, 1)
	one.tells(listed{125: 8})
	other.tells(listed{125: 7})
	laid(t, 130).tells(nil)
}

// TestGetNoPage: of no page the count is 0, whatever the pages' counts are.
func TestGetNoPage(t *testing.T) {
	for _, pages := range sizes() {
		b := laid(t, pages)
		for p := range pages {
			b.adds(p, 1000-p%7)
		}
		for _, p := range noPages(pages) {
			if got := b.c.Get(p); got != 0 {
				t.Errorf("Get(%d) = %d of %d pages", p, got, pages)
			}
		}
		if got := b.c.Get(pages - 1); got != 1000-(pages-1)%7 {
			t.Errorf("Get(%d) = %d", pages-1, got)
		}
	}
}

// TestAdd: a count is by so many more, or fewer, from 0 to 1000.
func TestAdd(t *testing.T) {
	for _, p := range []int{0, 1, 119, 120, 129} {
		b := laid(t, 130)
		count := 0
		for _, by := range []int{0, 1, 0, 2, -1, -2, 0, 255, 1, -256, 1000, 0, -1, 1, -1000, 999, 1, -500, -500, 512, -512, 1000} {
			b.adds(p, by)
			count += by
			b.tells(listed{p: count})
		}
	}
}

// TestAddBounds: from each count, by each number about both ends of what it may become, and by the greatest and the least ones.
func TestAddBounds(t *testing.T) {
	for count := 0; count <= 1000; count += 125 {
		for _, by := range []int{-count, -count + 1, 1000 - count, 1000 - count - 1, 0} {
			if count+by < 0 || count+by > 1000 {
				continue
			}
			b := settled(t, 16, listed{9: count})
			b.adds(9, by)
			b.tells(listed{9: count + by})
		}
		b := settled(t, 16, listed{9: count})
		for _, by := range beyond(count) {
			b.adding(9, by, api.ErrCount)
		}
		b.tells(listed{9: count})
		b.touched()
	}
}

// beyond are numbers by which a count may not be more; by some of them the sum would wrap round, in 64 bits, in 32 or in 16.
func beyond(count int) []int {
	return []int{-count - 1, -count - 2, 1000 - count + 1, 1000 - count + 2, -1001, 1001, -1 << 16, 1 << 16, -1 << 32, 1 << 32, -1<<32 + 1, 1<<32 + 1,
		-1 << 62, 1 << 62, math.MinInt, math.MinInt + 1, math.MinInt + 1000, math.MaxInt - 1000, math.MaxInt - count, math.MaxInt - 1, math.MaxInt}
}

// changed is counts that were settled, then changed in two pages of counts; now is what they are, was what an Undo goes back to.
func changed(t *testing.T) (b *bench, now, was listed) {
	t.Helper()
	was = listed{0: 1, 5: 3, 119: 1000, 120: 7, 240: 1, 249: 3}
	now = listed{0: 1, 5: 6, 7: 1, 119: 999, 120: 7, 240: 2, 249: 0}
	b = settled(t, 250, was)
	b.addsAll(listed{5: 3, 7: 1, 119: -1, 240: 1, 249: -3})
	return b, now, was
}

// unmoved asks whether such counts are as they were changed, and whether an Undo goes back to what they were.
func (b *bench) unmoved(now, was listed) {
	b.Helper()
	b.tells(now)
	b.touched(0, 2)
	b.c.Undo()
	b.tells(was)
	b.touched()
}

// TestChanged: without any call between such counts are unmoved, so that what the tests behind it ask hangs on their calls alone.
func TestChanged(t *testing.T) {
	b, now, was := changed(t)
	b.unmoved(now, was)
}

// TestAddNoPage: of no page ErrRange, by whatever number, and nothing changes.
func TestAddNoPage(t *testing.T) {
	for _, p := range noPages(250) {
		b, now, was := changed(t)
		for _, by := range []int{0, 1, -1, 1000, 1001, -1001, math.MinInt, math.MaxInt} {
			b.adding(p, by, api.ErrRange)
		}
		b.unmoved(now, was)
	}
	for _, pages := range sizes() {
		b := laid(t, pages)
		for _, p := range noPages(pages) {
			b.adding(p, 1, api.ErrRange)
			b.adding(p, 0, api.ErrRange)
		}
		b.tells(nil)
		b.touched()
	}
}

// TestAddRefused: a count that would be out of its bounds changes nothing: not one that was changed, nor one that was not, nor one that came back.
func TestAddRefused(t *testing.T) {
	for _, p := range []int{0, 5, 7, 8, 119, 120, 121, 240, 249} {
		b, now, was := changed(t)
		for _, by := range beyond(now[p]) {
			b.adding(p, by, api.ErrCount)
		}
		b.unmoved(now, was)

		b, now, was = changed(t)
		b.adds(p, was[p]-now[p])
		for _, by := range beyond(was[p]) {
			b.adding(p, by, api.ErrCount)
		}
		b.adds(p, now[p]-was[p])
		b.unmoved(now, was)
	}
}

// TestPagesApart: a change of one page's count changes no other one's, in its page of counts or in another, whatever they are.
func TestPagesApart(t *testing.T) {
	for _, pages := range []int{16, 120, 121, 250} {
		b, l := laid(t, pages), listed{}
		for p := range pages {
			b.adds(p, 1+p)
			l[p] = 1 + p
			b.tells(l)
		}
		b.c.Settle()
		for p := range pages {
			b.adds(p, 1000-l[p])
			b.touched(p / 120)
			b.tells(with(l, p, 1000))
			b.c.Undo()
			b.adds(p, -l[p])
			b.touched(p / 120)
			b.tells(with(l, p, 0))
			b.c.Undo()
		}
		b.tells(l)
	}
}

// with is a list with one count another one.
func with(l listed, p, count int) listed {
	other := maps.Clone(l)
	other[p] = count
	return other
}
