package crc_test

import (
	"bytes"
	"hash/crc32"
	"sync"
	"testing"

	"polder/api"
	"polder/crc"
)

// reckoned is More as the chapter's words reckon it, bit for bit and without a table.
func reckoned(sum uint32, data []byte) uint32 {
	sum = ^sum
	for _, b := range data {
		sum ^= uint32(b)
		for range 8 {
			lowest := sum & 1
			sum >>= 1
			if lowest == 1 {
				sum ^= 0x82F63B78
			}
		}
	}
	return ^sum
}

// text is bytes that look like no pattern; the same seed gives the same ones.
func text(seed uint32, length int) []byte {
	data := make([]byte, length)
	x := seed*2654435761 + 1
	for i := range data {
		x ^= x << 13
		x ^= x >> 17
		x ^= x << 5
		data[i] = byte(x >> 8)
	}
	return data
}

// lengths are those of the texts that are summed: none, few, around a sector, many.
func lengths() []int {
	l := []int{api.BlockSize, api.BodySize, api.SectorSize - 1, api.SectorSize, api.SectorSize + 1, 1000, 4096, 65536}
	for n := range 40 {
		l = append(l, n)
	}
	return l
}

// starts are the numbers that More goes on from.
func starts() []uint32 {
	return []uint32{0, 1, 7, 0x80, 0xFF, 0x100, 0x7FFFFFFF, 0x80000000, 0x82F63B78, 0xE3069283, 0xFFFFFFFE, 0xFFFFFFFF}
}

// counting is bytes from one number on, each by so much more than the one ahead of it.
func counting(first, by byte, length int) []byte {
	data := make([]byte, length)
	for i := range data {
		data[i] = first
		first += by
	}
	return data
}

func TestExamples(t *testing.T) {
	table := crc.New()
	for _, c := range []struct {
		name string
		data []byte
		want uint32
	}{
		{"no byte, nil", nil, 0},
		{"no byte, empty", []byte{}, 0},
		{"digits", []byte("123456789"), 0xE3069283},
		{"noughts", make([]byte, 32), 0x8A9136AA},
		{"255s", bytes.Repeat([]byte{255}, 32), 0x62A8AB43},
		{"upward", counting(0, 1, 32), 0x46DD794E},
		{"downward", counting(31, 255, 32), 0x113FDB5C},
		{"one letter", []byte("a"), 0xC1D04330},
	} {
		if s := table.Sum(c.data); s != c.want {
			t.Errorf("Sum of %s = %#x, not %#x", c.name, s, c.want)
		}
	}
	if s := table.More(table.Sum([]byte("1234")), []byte("56789")); s != 0xE3069283 {
		t.Errorf("More of the digits' parts = %#x", s)
	}
	if s := table.More(7, nil); s != 7 {
		t.Errorf("More(7, none) = %d", s)
	}
}

func TestMoreIsAsReckoned(t *testing.T) {
	table := crc.New()
	for _, n := range lengths() {
		data := text(uint32(n), n)
		for _, s := range starts() {
			if got, want := table.More(s, data), reckoned(s, data); got != want {
				t.Errorf("More(%#x, %d bytes) = %#x, not %#x", s, n, got, want)
			}
		}
	}
}

func TestMoreIsCRC32C(t *testing.T) {
	table := crc.New()
	library := crc32.MakeTable(crc32.Castagnoli)
	for _, n := range lengths() {
		data := text(uint32(n)+500, n)
		for _, s := range starts() {
			if got, want := table.More(s, data), crc32.Update(s, library, data); got != want {
				t.Errorf("More(%#x, %d bytes) = %#x, not %#x", s, n, got, want)
			}
		}
	}
}

func TestEachByte(t *testing.T) {
	table := crc.New()
	for i := range 256 {
		data := []byte{byte(i)}
		for _, s := range starts() {
			if got, want := table.More(s, data), reckoned(s, data); got != want {
				t.Errorf("More(%#x, the byte %d) = %#x, not %#x", s, i, got, want)
			}
		}
	}
}

func TestSumIsMoreFromNought(t *testing.T) {
	table := crc.New()
	for _, n := range lengths() {
		data := text(uint32(n)+1000, n)
		if s, m := table.Sum(data), table.More(0, data); s != m || s != reckoned(0, data) {
			t.Errorf("%d bytes: Sum %#x, More(0) %#x, not %#x", n, s, m, reckoned(0, data))
		}
	}
}

func TestMoreOfNoByte(t *testing.T) {
	table := crc.New()
	for _, s := range starts() {
		if got := table.More(s, nil); got != s {
			t.Errorf("More(%#x, nil) = %#x", s, got)
		}
		if got := table.More(s, []byte{}); got != s {
			t.Errorf("More(%#x, empty) = %#x", s, got)
		}
		if got := table.More(s, make([]byte, 0, 9)); got != s {
			t.Errorf("More(%#x, spare room alone) = %#x", s, got)
		}
	}
}

func TestTwoParts(t *testing.T) {
	table := crc.New()
	data := text(3, api.SectorSize+5)
	want := table.Sum(data)
	for cut := range len(data) + 1 {
		if got := table.More(table.Sum(data[:cut]), data[cut:]); got != want {
			t.Errorf("cut at %d: %#x, not %#x", cut, got, want)
		}
	}
}

func TestManyParts(t *testing.T) {
	table := crc.New()
	data := text(4, 1000)
	want := table.Sum(data)
	for step := 1; step <= 64; step++ {
		got := uint32(0)
		for part := range chunks(data, step) {
			got = table.More(got, part)
		}
		if got != want {
			t.Errorf("in parts of %d: %#x, not %#x", step, got, want)
		}
	}
}

// chunks goes through data in parts of so many bytes; the last one may have less.
func chunks(data []byte, step int) func(func([]byte) bool) {
	return func(give func([]byte) bool) {
		for at := 0; at < len(data); at += step {
			if !give(data[at:min(at+step, len(data))]) {
				return
			}
		}
	}
}

// TestBurstsFew asks all texts that differ in up to twelve bits side by side.
func TestBurstsFew(t *testing.T) {
	table := crc.New()
	data := text(5, 8)
	want := table.Sum(data)
	for first := range len(data) * 8 {
		for pattern := 1; pattern < 1<<12; pattern += 2 {
			other := turned(data, first, uint64(pattern))
			if other == nil {
				break
			}
			if table.Sum(other) == want {
				t.Fatalf("bits %b turned from bit %d on: the same sum", pattern, first)
			}
		}
	}
}

// TestBurstsOf32 asks texts that differ in up to 32 bits side by side, at each place of a sector; and that a difference of 33 bits may be one that the sum does not tell.
func TestBurstsOf32(t *testing.T) {
	table := crc.New()
	data := text(6, api.SectorSize)
	want := table.Sum(data)
	for first := range len(data) * 8 {
		for width := 1; width <= 32; width++ {
			full := uint64(1)<<width - 1
			for _, pattern := range []uint64{full, 1 | 1<<(width-1), full & 0x82F63B79, full & 0x55555555} {
				other := turned(data, first, pattern)
				if other != nil && table.Sum(other) == want {
					t.Fatalf("bits %b turned from bit %d on: the same sum", pattern, first)
				}
			}
		}
	}
	if other := turned(data, 100, 0x105EC76F1); table.Sum(other) != want {
		t.Error("the polynomial's own 33 bits turned: another sum")
	}
}

// turned is data with the pattern's bits turned over from a bit on (the lowest of each byte is the first, as the sum takes them); nil if they don't all stand in it.
func turned(data []byte, first int, pattern uint64) []byte {
	other := bytes.Clone(data)
	for i := range 64 {
		if pattern>>i&1 == 0 {
			continue
		}
		at := first + i
		if at >= len(data)*8 {
			return nil
		}
		other[at/8] ^= 1 << (at % 8)
	}
	return other
}

// TestBurstsAll asks all of the 2^32 differences at each place at a time: what the single bits change in the sum hangs together in no way, so no choice of them changes nothing (sums go by exclusive or: TestThree).
func TestBurstsAll(t *testing.T) {
	table := crc.New()
	for _, length := range []int{1, 2, 3, 4, 5, 9, api.BlockSize, api.SectorSize} {
		data := text(uint32(length)+7, length)
		sum := table.Sum(data)
		for first := range length * 8 {
			var changes []uint32
			for bit := first; bit < min(first+32, length*8); bit++ {
				changes = append(changes, sum^table.Sum(turned(data, bit, 1)))
			}
			if !independent(changes) {
				t.Fatalf("%d bytes: some bits from bit %d on may be turned with the same sum", length, first)
			}
		}
	}
}

// independent tells whether no choice of some of the numbers comes to nought by exclusive or.
func independent(numbers []uint32) bool {
	var leaders [32]uint32
	for _, n := range numbers {
		for bit := 31; bit >= 0 && n != 0; bit-- {
			if n>>bit&1 == 0 {
				continue
			}
			if leaders[bit] == 0 {
				leaders[bit] = n
				break
			}
			n ^= leaders[bit]
		}
		if n == 0 {
			return false
		}
	}
	return true
}

func TestThree(t *testing.T) {
	table := crc.New()
	for _, n := range lengths() {
		for seed := range uint32(5) {
			a, b, c := text(3*seed+11, n), text(3*seed+12, n), text(3*seed+13, n)
			together := make([]byte, n)
			for i := range together {
				together[i] = a[i] ^ b[i] ^ c[i]
			}
			got, want := table.Sum(together), table.Sum(a)^table.Sum(b)^table.Sum(c)
			if got != want {
				t.Errorf("three texts of %d bytes: %#x, not %#x", n, got, want)
			}
		}
	}
}

// TestUnlike asks texts that differ by more than a few bits: a byte more or less, noughts ahead or behind, bytes that changed places.
func TestUnlike(t *testing.T) {
	table := crc.New()
	seen := map[uint32]string{}
	for _, s := range []string{"", "1", "12", "21", "123456789", "123456798", "213456789", "12345678", "1234567890",
		"\x00", "\x00\x00", "\x00\x00\x00\x00", "\x00123456789", "123456789\x00", "\xff", "\xff\xff", "123456789123456789"} {
		sum := table.Sum([]byte(s))
		if other, ok := seen[sum]; ok {
			t.Errorf("%q and %q have the same sum %#x", s, other, sum)
		}
		seen[sum] = s
	}
}

// TestSideBySide lets many goroutines ask one table that nobody asked ahead of them.
func TestSideBySide(t *testing.T) {
	const rounds, many = 300, 32
	texts := make([][]byte, many)
	wants := make([]uint32, many)
	for i := range texts {
		texts[i] = text(uint32(i)+100, 1+8*i)
		wants[i] = reckoned(reckoned(0, texts[i]), texts[i])
	}
	for range rounds {
		table := crc.New()
		begin := make(chan struct{})
		got := make([]uint32, many)
		var wait sync.WaitGroup
		for i := range many {
			wait.Go(func() {
				<-begin
				got[i] = table.More(table.Sum(texts[i]), texts[i])
			})
		}
		close(begin)
		wait.Wait()
		for i, s := range got {
			if s != wants[i] {
				t.Fatalf("the goroutine %d: %#x, not %#x", i, s, wants[i])
			}
		}
	}
}

// TestSideBySideLater lets them ask a table that is in use.
func TestSideBySideLater(t *testing.T) {
	table := crc.New()
	table.Sum(nil)
	got := make([]uint32, 16)
	var wait sync.WaitGroup
	for i := range got {
		wait.Go(func() {
			for n := range 200 {
				got[i] = table.More(got[i], text(uint32(i), n))
			}
		})
	}
	wait.Wait()
	for i, s := range got {
		want := uint32(0)
		for n := range 200 {
			want = reckoned(want, text(uint32(i), n))
		}
		if s != want {
			t.Errorf("the goroutine %d: %#x, not %#x", i, s, want)
		}
	}
}

// TestHandedIn: what is handed in is neither changed nor kept, nor its spare room looked at.
func TestHandedIn(t *testing.T) {
	table := crc.New()
	room := text(8, 64)
	data := room[:20]
	want := reckoned(0, data)
	if s := table.Sum(data); s != want {
		t.Errorf("Sum = %#x, not %#x", s, want)
	}
	if !bytes.Equal(room, text(8, 64)) {
		t.Error("the bytes or their spare room were changed")
	}
	clear(room[20:])
	if s := table.Sum(data); s != want {
		t.Errorf("with other spare room: %#x, not %#x", s, want)
	}
	data[3]++
	if s := table.Sum(data); s != reckoned(0, data) {
		t.Errorf("with another byte in the same place: %#x, not %#x", s, reckoned(0, data))
	}
}

// TestNothingKept: a sum hangs on its bytes, not on what the table, or another one, was asked ahead.
func TestNothingKept(t *testing.T) {
	used, other := crc.New(), crc.New()
	data := text(9, 100)
	want := reckoned(5, data)
	for n := range 300 {
		used.More(uint32(n), text(uint32(n), n))
		if s := used.More(5, data); s != want {
			t.Fatalf("behind %d others: %#x, not %#x", n, s, want)
		}
	}
	if s := other.More(5, data); s != want {
		t.Errorf("another table: %#x, not %#x", s, want)
	}
}
