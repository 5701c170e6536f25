package alloc_test

import "testing"

// TestDrop: a page that is taken, once; not one that is free, nor one that is dropped.
func TestDrop(t *testing.T) {
	for _, n := range sizes() {
		for _, p := range []int{0, n / 2, n - 1} {
			b := laid(t, n)
			b.drops(p, false)
			b.tells(all("-", n))
			b.marks(p, true)
			b.drops(p, true)
			b.drops(p, false)
			b.tells(all("-", p) + "x" + all("-", n-p-1))
			b.a.Settle()
			b.tells(all("-", n))
			b.drops(p, false)
			b.marks(p, true)
			b.drops(p, true)
			b.drops(p, false)
		}
	}
}

// TestDropFree: a free page whose drop was refused is no dropped one: it is taken by a Mark or a Take, and stays so behind a Settle.
func TestDropFree(t *testing.T) {
	b := laid(t, 3)
	b.drops(0, false)
	b.drops(2, false)
	b.takes(0)
	b.marks(2, true)
	b.a.Settle()
	b.tells("x-x")
	b.drops(1, false)
	b.a.Undo()
	b.tells("x-x")
}

// TestDropEach: page by page, of a map of which all the others are taken: it alone is free behind the Settle.
func TestDropEach(t *testing.T) {
	for _, n := range []int{1, 63, 64, 65, 130} {
		for p := range n {
			b := taken(t, n, n)
			b.drops(p, true)
			b.tells(all("x", n))
			b.a.Settle()
			b.tells(all("x", p) + "-" + all("x", n-p-1))
			b.takes(p)
			b.takesNone()
		}
	}
}

// TestDroppedNotTaken: a page that is dropped is taken neither by a Mark nor by a Take ahead of a Settle, however many others are free.
func TestDroppedNotTaken(t *testing.T) {
	for _, n := range []int{2, 64, 65, 129, 1024} {
		b := taken(t, n, 1)
		b.drops(0, true)
		for p := 1; p < n; p++ {
			b.marks(0, false)
			b.takes(p)
			b.drops(p, true)
			b.marks(p, false)
		}
		b.takesNone()
		b.tells(all("x", n))
		b.a.Settle()
		b.tells(all("-", n))
		b.marks(n-1, true)
		b.takes(0)
	}
}

// TestSettle: each dropped page is free, all others are what they were; once more it changes nothing.
func TestSettle(t *testing.T) {
	for _, c := range []struct{ ahead, behind string }{
		{"-", "-"},
		{"t", "x"},
		{"d", "-"},
		{"-td", "-x-"},
		{"dtd-t", "-x--x"},
		{all("-td", 43), all("-x-", 43)},
		{all("t", 63) + "dd" + all("t", 63), all("x", 63) + "--" + all("x", 63)},
		{all("d", 64) + all("t", 64), all("-", 64) + all("x", 64)},
		{all("t", 1023) + "d", all("x", 1023) + "-"},
	} {
		b := with(t, c.ahead)
		for range 3 {
			b.a.Settle()
			b.tells(c.behind)
			b.a.Undo()
			b.tells(c.behind)
		}
		for p, letter := range []byte(c.behind) {
			b.drops(p, letter == 'x') // of those that are taken each may be dropped: none is so still
		}
		b.a.Settle()
		b.tells(all("-", len(c.behind)))
	}
}

// TestSettleNothing: with nothing dropped it makes what was taken last.
func TestSettleNothing(t *testing.T) {
	for _, n := range sizes() {
		b := laid(t, n)
		b.a.Settle()
		b.tells(all("-", n))
		b.takes(0)
		b.a.Settle()
		b.tells("x" + all("-", n-1))
		b.a.Undo()
		b.tells("x" + all("-", n-1))
	}
}

// TestUndo: behind a Mark, a Take and a Drop, and behind several of them, all is as it was at the last Settle; once more it changes nothing.
func TestUndo(t *testing.T) {
	const settled = "xx-xx-x---"
	for name, calls := range map[string]func(b *bench){
		"nothing":       func(b *bench) {},
		"Mark":          func(b *bench) { b.marks(9, true) },
		"Mark, refused": func(b *bench) { b.marks(0, false) },
		"Take":          func(b *bench) { b.takes(2) },
		"Drop":          func(b *bench) { b.drops(0, true) },
		"Drop, refused": func(b *bench) { b.drops(2, false) },
		"Mark and Drop": func(b *bench) { b.marks(2, true); b.drops(2, true) },
		"Take and Drop": func(b *bench) { b.takes(2, 5); b.drops(5, true) },
		"Drop and Take": func(b *bench) { b.drops(6, true); b.takes(2, 5, 7) },
		"all Takes":     func(b *bench) { b.takes(2, 5, 7, 8, 9); b.takesNone() },
		"all Drops": func(b *bench) {
			b.drops(0, true)
			b.drops(1, true)
			b.drops(3, true)
			b.drops(4, true)
			b.drops(6, true)
		},
		"Undo and Take":      func(b *bench) { b.takes(2); b.a.Undo(); b.takes(2, 5) },
		"Undo and Drop":      func(b *bench) { b.drops(4, true); b.a.Undo(); b.drops(4, true) },
		"Take, Undo, Undo":   func(b *bench) { b.takes(2); b.a.Undo(); b.a.Undo() },
		"Drop, Undo, a Mark": func(b *bench) { b.drops(4, true); b.a.Undo(); b.marks(4, false); b.marks(5, true) },
	} {
		t.Run(name, func(t *testing.T) {
			b := with(t, "dt-tt-td-d")
			b.a.Settle()
			b.marks(0, true)
			b.a.Settle()
			b.tells(settled)
			calls(b)
			for range 3 {
				b.a.Undo()
				b.tells(settled)
			}
			calls(b)
			b.a.Undo()
			b.tells(settled)
			b.a.Settle() // what was dropped ahead of the Undo is not dropped any more
			b.tells(settled)
			b.drops(0, true)
			b.takes(2)
			b.a.Settle()
			b.tells("-xxxx-x---")
		})
	}
}

// TestUndoNew: without a Settle all is as New had it.
func TestUndoNew(t *testing.T) {
	for _, n := range sizes() {
		for _, letter := range []string{"-", "t", "d"} {
			b := with(t, all(letter, n))
			for range 2 {
				b.a.Undo()
				b.tells(all("-", n))
				b.drops(n-1, false)
			}
			b.takes(0)
			b.a.Undo()
			b.tells(all("-", n))
		}
	}
}

// TestUndoDropped: a page whose drop was undone is taken, if it was so at the last Settle: it may be dropped again, and is free by a Settle no sooner than that.
func TestUndoDropped(t *testing.T) {
	for _, n := range sizes() {
		b := taken(t, n, n)
		b.a.Settle()
		for p := range n {
			b.drops(p, true)
		}
		b.a.Undo()
		b.a.Settle()
		b.tells(all("x", n))
		b.drops(n-1, true)
		b.drops(n-1, false)
		b.a.Settle()
		b.tells(all("x", n-1) + "-")
		b.a.Undo()
		b.tells(all("x", n-1) + "-")
	}
}

// TestUndoLast: it is the last Settle that an Undo goes back to, not one ahead of it.
func TestUndoLast(t *testing.T) {
	b := laid(t, 130)
	for p := range 130 {
		b.takes(p)
		b.a.Undo()
		b.tells(all("x", p) + all("-", 130-p))
		b.takes(p)
		b.a.Settle()
		b.a.Undo()
		b.tells(all("x", p+1) + all("-", 130-p-1))
	}
	for p := range 130 {
		b.drops(p, true)
		b.a.Undo()
		b.tells(all("-", p) + all("x", 130-p))
		b.drops(p, true)
		b.a.Settle()
		b.a.Undo()
		b.tells(all("-", p+1) + all("x", 130-p-1))
	}
}
