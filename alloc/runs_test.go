package alloc_test

import (
	"slices"
	"testing"

	"polder/api"
)

// TestRuns: as the chapter has them, reckoned by hand; rising.
func TestRuns(t *testing.T) {
	for _, c := range []struct {
		letters string
		want    []api.Entry
	}{
		{"-", []api.Entry{{Key: 0, Val: 1}}},
		{"t", nil},
		{"d", nil},
		{"-----", []api.Entry{{Key: 0, Val: 5}}},
		{"ttttt", nil},
		{"t-t-t", []api.Entry{{Key: 1, Val: 1}, {Key: 3, Val: 1}}},
		{"-t-t-", []api.Entry{{Key: 0, Val: 1}, {Key: 2, Val: 1}, {Key: 4, Val: 1}}},
		{"-d-t-", []api.Entry{{Key: 0, Val: 1}, {Key: 2, Val: 1}, {Key: 4, Val: 1}}},
		{"--dt---d", []api.Entry{{Key: 0, Val: 2}, {Key: 4, Val: 3}}},
		{"t----", []api.Entry{{Key: 1, Val: 4}}},
		{"----t", []api.Entry{{Key: 0, Val: 4}}},
		{all("-", 63), []api.Entry{{Key: 0, Val: 63}}},
		{all("-", 64), []api.Entry{{Key: 0, Val: 64}}},
		{all("-", 65), []api.Entry{{Key: 0, Val: 65}}},
		{all("-", 1023), []api.Entry{{Key: 0, Val: 1023}}},
		{all("-", 1024), []api.Entry{{Key: 0, Val: 1024}}},
		{all("t", 1024), nil},
		{all("t", 63) + "-" + all("t", 64), []api.Entry{{Key: 63, Val: 1}}},
		{all("t", 64) + "-" + all("t", 63), []api.Entry{{Key: 64, Val: 1}}},
		{all("t", 63) + "--" + all("t", 63), []api.Entry{{Key: 63, Val: 2}}},
		{all("t", 60) + all("-", 8), []api.Entry{{Key: 60, Val: 8}}},
		{all("t", 63) + all("-", 66) + "t", []api.Entry{{Key: 63, Val: 66}}},
		{all("-", 63) + "t" + all("-", 64), []api.Entry{{Key: 0, Val: 63}, {Key: 64, Val: 64}}},
		{all("-", 64) + "t" + all("-", 63), []api.Entry{{Key: 0, Val: 64}, {Key: 65, Val: 63}}},
		{all("-", 64) + all("d", 64) + all("-", 64), []api.Entry{{Key: 0, Val: 64}, {Key: 128, Val: 64}}},
		{all("t", 1023) + "-", []api.Entry{{Key: 1023, Val: 1}}},
		{all("t", 1000) + all("-", 24), []api.Entry{{Key: 1000, Val: 24}}},
		{"-" + all("t", 1022) + "-", []api.Entry{{Key: 0, Val: 1}, {Key: 1023, Val: 1}}},
		{all("t", 62) + all("-", 900) + "tt", []api.Entry{{Key: 62, Val: 900}}},
	} {
		b := with(t, c.letters)
		for range 2 {
			if got := b.a.Runs(); !slices.Equal(got, c.want) {
				t.Errorf("Runs of %s = %v, not %v", c.letters, got, c.want)
			}
		}
	}
}

// TestRunsSecond: every second page free.
func TestRunsSecond(t *testing.T) {
	for _, n := range sizes() {
		for first := range 2 {
			b := laid(t, n)
			var want []api.Entry
			for p := range n {
				if p%2 == first {
					want = append(want, api.Entry{Key: p, Val: 1})
				} else {
					b.marks(p, true)
				}
			}
			if got := b.a.Runs(); !slices.Equal(got, want) {
				t.Errorf("Runs = %v, not %v", got, want)
			}
		}
	}
}

// TestRunsEach: of each run that there may be about two borders of words.
func TestRunsEach(t *testing.T) {
	const n = 134
	for first := range n {
		for _, length := range []int{1, 2, 3, 63, 64, 65, n - first} {
			if first+length > n {
				continue
			}
			b := with(t, all("t", first)+all("-", length)+all("t", n-first-length))
			if got := b.a.Runs(); !slices.Equal(got, []api.Entry{{Key: first, Val: length}}) {
				t.Errorf("Runs = %v, not %d from %d on", got, length, first)
			}
		}
	}
}

// TestRunsChange: a run comes together of pages that are free again, and falls apart by one that is taken.
func TestRunsChange(t *testing.T) {
	b := taken(t, 70, 70)
	for _, p := range []int{62, 64, 66} {
		b.drops(p, true)
	}
	if got := b.a.Runs(); len(got) != 0 {
		t.Errorf("Runs = %v of dropped pages", got)
	}
	b.a.Settle()
	b.tells(all("x", 62) + "-x-x-xxx")
	b.drops(63, true)
	b.drops(65, true)
	b.a.Settle()
	b.tells(all("x", 62) + "-----xxx")
	b.marks(64, true)
	b.tells(all("x", 62) + "--x--xxx")
	b.a.Undo()
	b.tells(all("x", 62) + "-----xxx")
}

// TestRunsWhole: the runs are as many pages as are free, each of them free, and between two runs there is a page that is not.
func TestRunsWhole(t *testing.T) {
	for _, n := range sizes() {
		for step := 1; step <= 70; step++ {
			b := laid(t, n)
			for p := range n {
				if p*p%step == 1 || p%step == 5 {
					b.marks(p, true)
				}
				if p%7 == 1 {
					b.a.Drop(p)
				}
			}
			b.whole()
			b.a.Settle()
			b.whole()
			b.a.Undo()
			b.whole()
		}
	}
}

// whole asks so of a map.
func (b *bench) whole() {
	b.Helper()
	pages, behind := 0, -1 // behind: the page that the last run ends ahead of
	for _, run := range b.a.Runs() {
		if run.Val < 1 || run.Key <= behind {
			b.Fatalf("a run of %d from %d on, with one ahead of it that ends at %d", run.Val, run.Key, behind)
		}
		for p := run.Key; p < run.Key+run.Val; p++ {
			if !b.a.IsFree(p) {
				b.Fatalf("page %d of a run of %d from %d on is not free", p, run.Val, run.Key)
			}
		}
		pages += run.Val
		behind = run.Key + run.Val
		if b.a.IsFree(run.Key-1) || b.a.IsFree(behind) {
			b.Fatalf("a run of %d from %d on goes farther", run.Val, run.Key)
		}
	}
	if free := b.a.Free(); pages != free {
		b.Fatalf("runs of %d pages, and %d are free", pages, free)
	}
}

// TestRunsCallers: what Runs answers is its caller's, its spare room too: what is written there changes neither the map nor another answer.
func TestRunsCallers(t *testing.T) {
	for _, letters := range []string{"-", "t", "--t-", all("-t", 40), all("-", 64) + "t" + all("-", 65), all("t-", 512), all("t", 70)} {
		b := with(t, letters)
		want := runs(told(letters))
		one, other := b.a.Runs(), b.a.Runs()
		spoil(one)
		if !slices.Equal(other, want) {
			t.Errorf("a changed answer changes another one: %v, not %v", other, want)
		}
		b.tells(told(letters))
		spoil(other)
		b.a.Settle()
		b.a.Undo()
		b.tells(told(letters))
		if len(one) != len(want) || len(want) > 0 && one[0] != (api.Entry{Key: -7, Val: -7}) {
			t.Errorf("an answer is changed by later calls: %v", one)
		}
	}
}

// spoil writes over an answer and its spare room.
func spoil(l []api.Entry) {
	l = l[:cap(l)]
	for i := range l {
		l[i] = api.Entry{Key: -7, Val: -7}
	}
}

// TestTelling: Free, IsFree and Runs change nothing, neither now nor at the next Settle or Undo.
func TestTelling(t *testing.T) {
	for _, tells := range []func(b *bench){
		func(b *bench) { b.a.Free() },
		func(b *bench) { b.a.Runs() },
		func(b *bench) {
			for p := -70; p < 200; p++ {
				b.a.IsFree(p)
			}
		},
	} {
		b := with(t, "d-t"+all("-", 67))
		tells(b)
		b.takes(1)
		tells(b)
		b.drops(2, true)
		tells(b)
		b.a.Settle()
		tells(b)
		b.tells("-x-" + all("-", 67))
		b.takes(0)
		tells(b)
		b.a.Undo()
		b.tells("-x-" + all("-", 67))
	}
}
