package counts_test

import "testing"

// TestTouched: the pages of counts in which a count is another one, each once, rising, in whatever order they were changed.
func TestTouched(t *testing.T) {
	b := laid(t, 1024)
	b.touched()
	b.adds(1023, 1)
	b.touched(8)
	b.adds(1020, 1)
	b.touched(8)
	b.adds(130, 1)
	b.touched(1, 8)
	b.adds(119, 1)
	b.touched(0, 1, 8)
	b.adds(0, 1)
	b.adds(359, 4)
	b.touched(0, 1, 2, 8)
	for _, p := range []int{960, 959, 720, 600, 599, 360} {
		b.adds(p, 2)
	}
	b.touched(0, 1, 2, 3, 4, 5, 6, 7, 8)
	b.touched(0, 1, 2, 3, 4, 5, 6, 7, 8) // asking changes nothing
	b.c.Settle()
	b.touched()
}

// TestTouchedEach: of each page, the one page of counts that tells of it.
func TestTouchedEach(t *testing.T) {
	for _, pages := range []int{16, 121, 250, 1024} {
		b := laid(t, pages)
		for p := range pages {
			b.adds(p, 1)
			b.touched(p / 120)
			b.c.Settle()
			b.touched()
			b.adds(p, -1)
			b.touched(p / 120)
			b.c.Undo()
			b.touched()
		}
	}
}

// TestTouchedBack: counts that came back to what they were are not touched, whichever way, and as long as no other one there is.
func TestTouchedBack(t *testing.T) {
	b := settled(t, 250, listed{3: 4, 119: 1000, 125: 1})
	b.adds(3, 0)
	b.touched()
	b.adds(3, 1)
	b.adds(3, -1)
	b.touched()
	b.adds(3, -4)
	b.adds(119, -1000)
	b.adds(125, -1)
	b.touched(0, 1)
	b.adds(3, 1)
	b.adds(3, 3)
	b.touched(0, 1)
	b.adds(125, 1)
	b.touched(0)
	b.adds(119, 1000)
	b.touched()
	b.tells(listed{3: 4, 119: 1000, 125: 1})
	b.adds(3, 2)
	b.touched(0)
	b.c.Undo()
	b.touched()
	b.tells(listed{3: 4, 119: 1000, 125: 1})
}

// TestTouchedSum: a page of counts is touched, too, where one count is more by what another one is less.
func TestTouchedSum(t *testing.T) {
	b := settled(t, 130, listed{3: 1, 4: 2})
	b.addsAll(listed{3: 1, 4: -1})
	b.touched(0)
	b.tells(listed{3: 2, 4: 1})
	b.c.Undo()
	b.tells(listed{3: 1, 4: 2})
}

// TestTouchedLast: it is the last Settle that counts, not one ahead of it: a count that is what it was ahead of that is another one.
func TestTouchedLast(t *testing.T) {
	b := laid(t, 130)
	b.adds(125, 1)
	b.c.Settle()
	b.adds(125, -1)
	b.touched(1)
	b.c.Settle()
	b.touched()
	b.adds(125, 1)
	b.touched(1)
	b.c.Undo()
	b.touched()
	b.tells(nil)
}

// TestTouchedLoaded: what is loaded was not changed; it is against that that counts are another one from then on.
func TestTouchedLoaded(t *testing.T) {
	b := settled(t, 130, listed{0: 2, 125: 1})
	b.adds(125, 1)
	b.touched(1)
	b.loads(1, bodyOf(listed{125: 9}, 1))
	b.touched()
	b.adds(125, -8)
	b.touched(1) // as at the Settle, not as at the Load
	b.adds(125, 8)
	b.touched()
	b.loads(1, bodyOf(listed{125: 3}, 1))
	b.touched()
	b.adds(0, 1)
	b.loads(1, bodyOf(listed{126: 1}, 1))
	b.touched(0)
	b.tells(listed{0: 3, 126: 1})
}

// TestSettle: all is as it is now: nothing was changed, and an Undo, once or twice, changes nothing.
func TestSettle(t *testing.T) {
	b, now, _ := changed(t)
	b.c.Settle()
	for range 2 {
		b.tells(now)
		b.touched()
		b.c.Undo()
	}
	b.tells(now)
	b.c.Settle()
	b.tells(now)
	b.touched()
	b.adds(5, 1)
	b.adds(249, 1)
	b.touched(0, 2)
	b.c.Undo()
	b.tells(now)
}

// TestUndo: all counts are as at the last Settle, behind one change, several of one count and several of many; once more it changes nothing.
func TestUndo(t *testing.T) {
	was := listed{0: 1, 3: 5, 119: 1000, 120: 2, 129: 1}
	for name, changes := range map[string][]struct{ p, by int }{
		"nothing":            {},
		"by 0":               {{3, 0}},
		"more":               {{3, 1}},
		"fewer":              {{3, -1}},
		"to 0":               {{3, -5}},
		"from 0":             {{4, 1}},
		"from the greatest":  {{119, -1}},
		"one, several times": {{3, 1}, {3, 2}, {3, -7}, {3, 900}},
		"back, and on":       {{3, 1}, {3, -1}, {3, 4}},
		"two side by side":   {{3, 1}, {4, 1}},
		"two pages' borders": {{119, -1000}, {120, 998}},
		"many":               {{129, -1}, {0, 1}, {120, 1}, {3, -5}, {128, 77}, {3, 5}, {119, -1}, {1, 1}},
	} {
		t.Run(name, func(t *testing.T) {
			b := settled(t, 130, was)
			for range 3 {
				for _, x := range changes {
					b.adds(x.p, x.by)
				}
				b.c.Undo()
				b.tells(was)
				b.touched()
				b.c.Undo()
				b.tells(was)
				b.touched()
			}
			b.c.Settle()
			b.tells(was)
		})
	}
}

// TestUndoNew: without a Settle all counts are as New has them.
func TestUndoNew(t *testing.T) {
	for _, pages := range sizes() {
		b := laid(t, pages)
		for p := range pages {
			b.adds(p, 1+p%1000)
		}
		b.c.Undo()
		b.tells(nil)
		b.touched()
	}
}

// TestUndoLast: it is the last Settle that an Undo goes back to, not one ahead of it.
func TestUndoLast(t *testing.T) {
	b := laid(t, 130)
	for n := range 50 {
		b.adds(119, 1)
		b.adds(120, 2)
		b.c.Undo()
		b.tells(listed{119: n, 120: 2 * n})
		b.adds(119, 1)
		b.adds(120, 2)
		b.c.Settle()
		b.adds(119, -1)
		b.c.Undo()
		b.tells(listed{119: n + 1, 120: 2*n + 2})
	}
}

// TestUndoBehindLoad: what is loaded stays through an Undo, whatever was changed there ahead of it; what was changed in another page of counts goes back to the last Settle.
func TestUndoBehindLoad(t *testing.T) {
	b := settled(t, 250, listed{0: 1, 5: 3, 125: 7, 249: 2})
	b.addsAll(listed{0: 4, 5: -3, 9: 1, 125: 1, 130: 1, 249: 3})
	loaded := listed{5: 8, 119: 1000}
	b.loads(0, bodyOf(loaded, 0))
	b.tells(listed{5: 8, 119: 1000, 125: 8, 130: 1, 249: 5})
	b.touched(1, 2)
	for range 2 {
		b.c.Undo()
		b.tells(listed{5: 8, 119: 1000, 125: 7, 249: 2})
		b.touched()
	}
}

// TestUndoBehindLoadBorders: of the pages on both sides of what is loaded, those that are not in it go back.
func TestUndoBehindLoadBorders(t *testing.T) {
	b := settled(t, 250, listed{119: 1, 120: 2, 239: 3, 240: 4})
	b.addsAll(listed{119: 10, 120: 10, 239: 10, 240: 10})
	b.loads(1, bodyOf(listed{120: 20, 239: 30}, 1))
	b.touched(0, 2)
	b.tells(listed{119: 11, 120: 20, 239: 30, 240: 14})
	b.c.Undo()
	b.tells(listed{119: 1, 120: 20, 239: 30, 240: 4})
	b.touched()
}

// TestUndoToLoad: what was changed behind a Load goes back to what was loaded, ahead of a Settle and behind it.
func TestUndoToLoad(t *testing.T) {
	b := laid(t, 130)
	b.adds(125, 1)
	b.loads(1, bodyOf(listed{125: 9, 126: 4}, 1))
	b.addsAll(listed{125: 1, 126: -4, 127: 1})
	b.touched(1)
	b.c.Undo()
	b.tells(listed{125: 9, 126: 4})
	b.touched()
	b.adds(125, 1)
	b.c.Settle()
	b.adds(125, 1)
	b.c.Undo()
	b.tells(listed{125: 10, 126: 4})
	b.loads(1, bodyOf(listed{125: 2}, 1))
	b.adds(125, 1)
	b.loads(1, bodyOf(listed{125: 6}, 1))
	b.c.Undo()
	b.tells(listed{125: 6})
}

// TestLoadSame: a body that tells what the counts are already makes that what an Undo goes back to.
func TestLoadSame(t *testing.T) {
	b := laid(t, 130)
	b.adds(3, 5)
	b.adds(125, 1)
	b.loads(1, b.c.Body(1))
	b.touched(0)
	b.c.Undo()
	b.tells(listed{125: 1})
}
