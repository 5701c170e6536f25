package counts_test

import (
	"bytes"
	"slices"
	"testing"

	"polder/api"
)

// TestBody: two bytes of each of 120 pages, the higher one first.
func TestBody(t *testing.T) {
	b := laid(t, 240)
	b.addsAll(listed{0: 1, 1: 256, 118: 999, 119: 1000, 120: 515, 239: 255})
	first, second := b.c.Body(0), b.c.Body(1)
	if len(first) != 240 || !slices.Equal(first[:5], []byte{0, 1, 1, 0, 0}) || !slices.Equal(first[235:], []byte{0, 3, 231, 3, 232}) {
		t.Errorf("Body(0) = %v", first)
	}
	if len(second) != 240 || !slices.Equal(second[:3], []byte{2, 3, 0}) || !slices.Equal(second[237:], []byte{0, 0, 255}) {
		t.Errorf("Body(1) = %v", second)
	}
	b.tells(listed{0: 1, 1: 256, 118: 999, 119: 1000, 120: 515, 239: 255})
}

// TestBodyLast: of the last page of counts too, there are 240 bytes; 0, where there is no page.
func TestBodyLast(t *testing.T) {
	for _, pages := range sizes() {
		b, l := laid(t, pages), listed{}
		for p := range pages {
			b.adds(p, 1000)
			l[p] = 1000
		}
		b.tells(l)
		last := many(pages) - 1
		body, count := b.c.Body(last), pages-120*last
		if len(body) != 240 {
			t.Fatalf("Body(%d) of %d pages has %d bytes", last, pages, len(body))
		}
		if want := append(bytes.Repeat([]byte{3, 232}, count), make([]byte, 240-2*count)...); !bytes.Equal(body, want) {
			t.Errorf("Body(%d) of %d pages = %v", last, pages, body)
		}
	}
}

// TestBodyNone: none of a page of counts that there is not.
func TestBodyNone(t *testing.T) {
	for _, pages := range sizes() {
		b := laid(t, pages)
		b.adds(0, 1)
		b.adds(pages-1, 1)
		for _, i := range noParts(pages) {
			if got := b.c.Body(i); len(got) != 0 {
				t.Errorf("Body(%d) of %d pages = %v", i, pages, got)
			}
		}
	}
}

// TestBodyNow: what it tells is what the counts are, settled or not, behind an Undo too.
func TestBodyNow(t *testing.T) {
	b := laid(t, 130)
	b.adds(125, 2)
	b.tells(listed{125: 2})
	b.c.Settle()
	b.tells(listed{125: 2})
	b.adds(125, 3)
	b.tells(listed{125: 5})
	b.c.Undo()
	b.tells(listed{125: 2})
	b.loads(1, bodyOf(listed{121: 9}, 1))
	b.tells(listed{121: 9})
}

// TestLoad: the counts of the one page of counts are those of the body, and none of them was changed.
func TestLoad(t *testing.T) {
	l := listed{0: 1, 60: 256, 119: 1000, 120: 1000, 180: 999, 239: 2, 240: 3, 249: 1000}
	for i := range 3 {
		b, now, _ := changed(t)
		b.loads(i, bodyOf(l, i))
		want := listed{}
		for p := range 250 {
			want[p] = now[p]
			if p/120 == i {
				want[p] = l[p]
			}
		}
		b.tells(want)
		b.touched(slices.DeleteFunc([]int{0, 2}, func(at int) bool { return at == i })...)
	}
	b, _, _ := changed(t)
	for i := range 3 {
		b.loads(i, bodyOf(l, i))
	}
	b.tells(l)
	b.touched()
	b.c.Undo()
	b.tells(l)
}

// TestLoadEach: of each place, the count that stands there, to its greatest; 0 is one too.
func TestLoadEach(t *testing.T) {
	b := laid(t, 130)
	for p := range 130 {
		for _, count := range []int{1, 255, 256, 1000} {
			l := listed{p: count}
			b.loads(0, bodyOf(l, 0))
			b.loads(1, bodyOf(l, 1))
			b.tells(l)
			b.touched()
		}
	}
	b.loads(1, make([]byte, 240))
	b.tells(nil)
}

// TestLoadNoPart: ErrRange of a page of counts that there is not, whatever the body is, and nothing changes.
func TestLoadNoPart(t *testing.T) {
	for _, i := range noParts(250) {
		b, now, was := changed(t)
		b.loading(i, make([]byte, 240), api.ErrRange)
		b.loading(i, bodyOf(listed{0: 1}, 0), api.ErrRange)
		b.loading(i, nil, api.ErrRange)
		b.loading(i, make([]byte, 239), api.ErrRange)
		b.loading(i, bytes.Repeat([]byte{255}, 240), api.ErrRange)
		b.unmoved(now, was)
	}
	for _, pages := range sizes() {
		b := laid(t, pages)
		for _, i := range noParts(pages) {
			b.loading(i, make([]byte, 240), api.ErrRange)
		}
		b.tells(nil)
	}
}

// TestLoadNoBody: ErrImage of bytes that are no body, and of a count above 1000, and nothing changes.
func TestLoadNoBody(t *testing.T) {
	refused := [][]byte{nil, {}, {0}, make([]byte, 2), make([]byte, 120), make([]byte, 238), make([]byte, 239), make([]byte, 241), make([]byte, 256), make([]byte, 480),
		make([]byte, 239, 300), make([]byte, 0, 240), bytes.Repeat([]byte{255}, 240)}
	for _, place := range []int{0, 1, 4, 59, 60, 118, 119} {
		for _, count := range []int{1001, 1002, 1023, 1024, 2000, 32767, 32768, 65535} {
			refused = append(refused, bodyOf(listed{place: count}, 0))
			refused = append(refused, bodyOf(listed{0: 1, 4: 2, 9: 1000, place: count}, 0))
		}
	}
	for _, body := range refused {
		for i := range 3 {
			b, now, was := changed(t)
			b.loading(i, body, api.ErrImage)
			b.unmoved(now, was)
		}
	}
}

// TestLoadNoPage: ErrImage, where the last page of counts tells a count above 0 of no page, wherever it stands, and nothing changes.
func TestLoadNoPage(t *testing.T) {
	for p := 250; p < 360; p++ {
		for _, count := range []int{1, 256, 1000, 1001} {
			b, now, was := changed(t)
			b.loading(2, bodyOf(listed{p: count}, 2), api.ErrImage)
			b.loading(2, bodyOf(listed{240: 5, 249: 1, p: count}, 2), api.ErrImage)
			b.unmoved(now, was)
		}
	}
	for _, pages := range sizes() {
		last := many(pages) - 1
		for _, p := range []int{pages, 120*last + 119} {
			if p >= 120*last+120 || p < pages {
				continue // the last page of counts is full
			}
			b := laid(t, pages)
			b.loading(last, bodyOf(listed{p: 1}, last), api.ErrImage)
			b.tells(nil)
			b.touched()
		}
	}
}

// TestLoadLast: a last page of counts with 0 of no page is taken, to its last page's count.
func TestLoadLast(t *testing.T) {
	for _, pages := range sizes() {
		b, last := laid(t, pages), many(pages)-1
		l := listed{120 * last: 4}
		l[pages-1] = 1000
		b.loads(last, bodyOf(l, last))
		b.tells(l)
		b.touched()
	}
}

// TestThereAndBack: what Body tells Load takes, into the same counts, into such that were changed since, and into new ones.
func TestThereAndBack(t *testing.T) {
	for _, pages := range sizes() {
		b, l := laid(t, pages), listed{}
		for p := range pages {
			l[p] = p * 37 % 1001
		}
		b.addsAll(l)
		other := laid(t, pages)
		var bodies [][]byte
		for i := range many(pages) {
			bodies = append(bodies, b.c.Body(i))
			b.loads(i, bodies[i])
			other.loads(i, bodies[i])
		}
		b.tells(l)
		b.touched()
		other.tells(l)
		other.touched()
		for p := range pages {
			b.adds(p, -l[p])
		}
		b.tells(nil)
		for i, body := range bodies {
			b.loads(i, body)
			if got := b.c.Body(i); !bytes.Equal(got, body) {
				t.Errorf("%d pages: Body(%d) = %v, not %v", pages, i, got, body)
			}
		}
		b.tells(l)
		b.touched()
	}
}

// TestBodyIsNew: what Body answers is its caller's to change, its spare room too.
func TestBodyIsNew(t *testing.T) {
	b, now, was := changed(t)
	for i := range 3 {
		one, other := b.c.Body(i), b.c.Body(i)
		scribble(one)
		if !bytes.Equal(other, bodyOf(now, i)) {
			t.Errorf("Body(%d) shares memory with another one", i)
		}
		b.tells(now)
	}
	b.unmoved(now, was)
}

// scribble changes all of a slice, to the end of its room.
func scribble(body []byte) {
	body = body[:cap(body)]
	for i := range body {
		body[i] ^= 0x5a
	}
}

// TestTouchedIsNew: what Touched answers is its caller's to change, its spare room too.
func TestTouchedIsNew(t *testing.T) {
	b, now, was := changed(t)
	one, other := b.c.Touched(), b.c.Touched()
	one = one[:cap(one)]
	for i := range one {
		one[i] = 99
	}
	if !slices.Equal(other, []int{0, 2}) {
		t.Errorf("Touched shares memory with another one: %v", other)
	}
	b.unmoved(now, was)
}

// TestLoadKeepsNothing: what Load is handed is neither changed nor kept, nor is what lies behind it in the same memory, whether it is refused or not.
func TestLoadKeepsNothing(t *testing.T) {
	l := listed{120: 5, 125: 7, 129: 1000}
	for _, c := range []struct {
		body []byte
		want api.Errno
	}{
		{bodyOf(l, 1), api.OK},
		{bodyOf(listed{129: 1001}, 1), api.ErrImage},
		{bodyOf(listed{130: 1}, 1), api.ErrImage},
		{make([]byte, 239), api.ErrImage},
		{make([]byte, 241), api.ErrImage},
	} {
		room := append(slices.Clone(c.body), bytes.Repeat([]byte{7}, 300)...)
		ahead := slices.Clone(room)
		b := laid(t, 130)
		b.loading(1, room[:len(c.body)], c.want)
		b.adds(121, 3)
		if !bytes.Equal(room, ahead) {
			t.Errorf("Load of %d bytes changed what it was handed", len(c.body))
		}
		want := listed{121: 3}
		if c.want == api.OK {
			want = with(l, 121, 3)
		}
		scribble(room)
		b.tells(want)
		b.c.Undo()
		b.tells(with(want, 121, 0))
	}
}
