package disk_test

import (
	"math"
	"slices"
	"testing"

	"polder/api"
)

// TestVersions: a sector reads as its last version, and without one as what is durable; one of equal bytes is a version, too.
func TestVersions(t *testing.T) {
	b := laid(t, 3)
	b.write(1, "-", api.OK)
	b.dirty(1)
	b.reads(0, "---")
	for i := range 26 {
		letter := string(rune('a' + i))
		b.write(1, letter, api.OK)
		b.reads(0, "-"+letter+"-")
		b.dirty(1)
	}
	b.flush(api.OK)
	b.dirty()
	b.reads(0, "-z-")
	b.write(1, "z", api.OK)
	b.dirty(1)
	b.d.Crash(nil)
	b.dirty()
	b.reads(0, "-z-")
}

// TestDirty: rising, in whatever order sectors were written, each once.
func TestDirty(t *testing.T) {
	b := laid(t, 40)
	var want []int
	for i := range 40 {
		at := i * 27 % 40
		b.write(at, "a", api.OK)
		b.write(at, "b", api.OK)
		want = append(want, at)
		slices.Sort(want)
		b.dirty(want...)
	}
	b.writeFUA(5, "abc", api.OK)
	want = slices.DeleteFunc(want, func(at int) bool { return at >= 5 && at <= 7 })
	b.dirty(want...)
	b.flush(api.OK)
	b.dirty()
	b.write(39, "a", api.OK)
	b.write(0, "a", api.OK)
	b.dirty(0, 39)
	b.d.Crash([]int{1})
	b.dirty()
}

// TestFlush: what was written ahead of it is there behind any crash; what is written behind it is not.
func TestFlush(t *testing.T) {
	for _, picks := range [][]int{nil, {0, 0, 0}, {1, 1, 1}, {2, 3, 4}, {-1, -2, -3}} {
		b := laid(t, 3)
		b.write(0, "ab", api.OK)
		b.write(0, "c", api.OK)
		b.flush(api.OK)
		b.flush(api.OK)
		b.d.Crash(picks)
		b.reads(0, "cb-")
		b.write(0, "xyz", api.OK)
		b.d.Crash([]int{0, 0})
		b.reads(0, "cb-")
	}
}

// TestFUA: such a write makes its own sectors durable, with what it wrote, and no others.
func TestFUA(t *testing.T) {
	b := laid(t, 4)
	b.write(0, "abcd", api.OK)
	b.write(1, "efg", api.OK)
	b.writeFUA(1, "xy", api.OK)
	b.dirty(0, 3)
	b.reads(0, "axyg")
	b.write(2, "q", api.OK)
	b.dirty(0, 2, 3)
	b.d.Crash([]int{0, 0, 1})
	b.reads(0, "-xyd")
	b.write(1, "k", api.OK)
	b.writeFUA(1, "l", api.OK)
	b.write(1, "m", api.OK)
	b.write(1, "n", api.OK)
	b.d.Crash([]int{1})
	b.reads(0, "-myd")
	b.write(1, "r", api.OK)
	b.writeFUA(1, "s", api.OK)
	b.d.Crash([]int{1})
	b.reads(0, "-syd")
}

// TestCrashPicks: the remainder of a pick by how many versions there are and one tells which of them is durable.
func TestCrashPicks(t *testing.T) {
	letters := "abcdefgh"
	for versions := 1; versions <= len(letters); versions++ {
		picks := []int{math.MinInt, math.MinInt + 1, math.MaxInt, math.MaxInt - 1, 1 << 40, -1 << 40}
		for p := -20; p <= 20; p++ {
			picks = append(picks, p)
		}
		for _, pick := range picks {
			b := laid(t, 3)
			b.writeFUA(1, "Z", api.OK)
			for i := range versions {
				b.write(1, letters[i:i+1], api.OK)
			}
			b.d.Crash([]int{pick})
			b.dirty()
			p := (pick%(versions+1) + versions + 1) % (versions + 1)
			b.reads(0, "-"+("Z" + letters)[p:p+1]+"-")
		}
	}
}

// TestCrashPicksTold: some of them as they come out, reckoned by hand.
func TestCrashPicksTold(t *testing.T) {
	for _, c := range []struct {
		pick int
		want string
	}{{0, "Z"}, {1, "a"}, {2, "b"}, {3, "c"}, {4, "Z"}, {5, "a"}, {7, "c"}, {8, "Z"}, {-1, "c"}, {-2, "b"}, {-3, "a"}, {-4, "Z"}, {-5, "c"}, {-7, "a"}} {
		b := laid(t, 1)
		b.writeFUA(0, "Z", api.OK)
		b.write(0, "a", api.OK)
		b.write(0, "b", api.OK)
		b.write(0, "c", api.OK)
		b.d.Crash([]int{c.pick})
		b.reads(0, c.want)
	}
}

// TestCrashWhichPick: the k-th pick is that of the k-th dirty sector, in rising order; where there is none it is 0, and those beyond the dirty ones are not looked at.
func TestCrashWhichPick(t *testing.T) {
	for _, c := range []struct {
		picks []int
		want  string
	}{
		{nil, "A--D--G--J"},
		{[]int{}, "A--D--G--J"},
		{make([]int, 0, 4), "A--D--G--J"},
		{[]int{1}, "p--D--G--J"},
		{[]int{0, 1}, "A--r--G--J"},
		{[]int{0, 2}, "A--s--G--J"},
		{[]int{1, 2, 1}, "p--s--t--J"},
		{[]int{0, 0, 3, 1}, "A--D--v--w"},
		{[]int{1, 1, 2, 1}, "p--r--u--w"},
		{[]int{1, 1, 2, 0, 1, 1, 1}, "p--r--u--J"},
		{[]int{-1, -1, -1, -1, -1, -1, -1, -1, -1, -1, -1, -1}, "p--s--v--w"},
		{[]int{2, 3, 4, 2}, "A--D--G--J"},
	} {
		b := laid(t, 10)
		b.writeFUA(0, "A--D--G--J", api.OK)
		b.write(9, "w", api.OK)
		b.write(6, "t", api.OK)
		b.write(3, "r", api.OK)
		b.write(6, "u", api.OK)
		b.write(0, "p", api.OK)
		b.write(3, "s", api.OK)
		b.write(6, "v", api.OK)
		b.dirty(0, 3, 6, 9)
		b.d.Crash(c.picks)
		b.reads(0, c.want)
		b.dirty()
		b.d.Crash([]int{1, 1, 1, 1})
		b.reads(0, c.want)
	}
}

// TestCrashes: several in a row; each one's durable bytes are where the next one begins.
func TestCrashes(t *testing.T) {
	b := laid(t, 2)
	b.d.Crash(nil)
	b.d.Crash([]int{1, 2, 3})
	b.reads(0, "--")
	for i := range 20 {
		letter := string(rune('a' + i))
		b.write(0, letter+letter, api.OK)
		b.write(0, "XX", api.OK)
		b.d.Crash([]int{1, 4})
		b.d.Crash([]int{1, 1})
		b.d.Crash(nil)
		b.reads(0, letter+letter)
		b.dirty()
	}
	b.write(0, "A", api.OK)
	b.d.Crash([]int{1})
	b.write(0, "B", api.OK)
	b.d.Crash([]int{0})
	b.write(0, "C", api.OK)
	b.write(1, "D", api.OK)
	b.d.Crash([]int{2, 1})
	b.reads(0, "AD")
}

// TestCrashEnds: behind a crash nothing is to fail, the disk is not cut, nor will it be.
func TestCrashEnds(t *testing.T) {
	for _, n := range []int{1, 2, 5} {
		b := laid(t, 2)
		for kind := api.FailRead; kind <= api.FailFlush; kind++ {
			b.fail(kind, n, api.OK)
		}
		b.cut(n-1, api.OK)
		b.d.Crash(nil)
		for range 12 {
			b.write(0, "a", api.OK)
			b.writeFUA(1, "b", api.OK)
			b.flush(api.OK)
			b.reads(0, "ab")
		}
	}
}
