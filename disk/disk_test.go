package disk_test

import (
	"bytes"
	"math"
	"slices"
	"testing"

	"polder/api"
	"polder/disk"
)

// bench is a disk in a test. Its sectors are told by letters: each is full of its letter, and of noughts where that is a dash.
type bench struct {
	*testing.T
	d *disk.Disk
}

// laid is a new disk of so many sectors.
func laid(t *testing.T, sectors int) bench {
	t.Helper()
	d, e := disk.New(sectors)
	if d == nil || e != api.OK {
		t.Fatalf("New(%d) = %v, %v", sectors, d, e)
	}
	return bench{t, d}
}

// full is sectors, one for each letter.
func full(letters string) []byte {
	var data []byte
	for _, b := range []byte(letters) {
		if b == '-' {
			b = 0
		}
		data = append(data, bytes.Repeat([]byte{b}, 256)...)
	}
	return data
}

// short is bytes as a test tells them: one of each sector, and how many there are.
func short(data []byte) string {
	letters := ""
	for part := range slices.Chunk(data, 256) {
		if part[0] == 0 {
			letters += "-"
		} else {
			letters += string(rune(part[0]))
		}
		if !bytes.Equal(part, full(letters[len(letters)-1:])) {
			letters += "(not all)"
		}
	}
	return letters
}

// is asks what a call answered.
func (b bench) is(call string, got, want api.Errno) {
	b.Helper()
	if got != want {
		b.Errorf("%s = %v, not %v", call, got, want)
	}
}

func (b bench) write(at int, letters string, want api.Errno) {
	b.Helper()
	b.is("Write of "+letters, b.d.Write(at, full(letters), false), want)
}

func (b bench) writeFUA(at int, letters string, want api.Errno) {
	b.Helper()
	b.is("Write with FUA of "+letters, b.d.Write(at, full(letters), true), want)
}

func (b bench) flush(want api.Errno) {
	b.Helper()
	b.is("Flush", b.d.Flush(), want)
}

func (b bench) fail(kind, n int, want api.Errno) {
	b.Helper()
	b.is("Fail", b.d.Fail(kind, n), want)
}

func (b bench) cut(n int, want api.Errno) {
	b.Helper()
	b.is("Cut", b.d.Cut(n), want)
}

// reads asks what stands on the disk from a sector on.
func (b bench) reads(at int, letters string) {
	b.Helper()
	data, e := b.d.Read(at, len(letters))
	if e != api.OK || !bytes.Equal(data, full(letters)) {
		b.Errorf("Read(%d, %d) = %s, %v, not %s", at, len(letters), short(data), e, letters)
	}
}

// readFails asks a Read that is refused.
func (b bench) readFails(at, count int, want api.Errno) {
	b.Helper()
	data, e := b.d.Read(at, count)
	if len(data) != 0 || e != want {
		b.Errorf("Read(%d, %d) = %d bytes, %v, not %v", at, count, len(data), e, want)
	}
}

func (b bench) dirty(want ...int) {
	b.Helper()
	if got := b.d.Dirty(); !slices.Equal(got, want) {
		b.Errorf("Dirty = %v, not %v", got, want)
	}
}

func TestExamples(t *testing.T) {
	for _, sectors := range []int{0, 4097} {
		if d, e := disk.New(sectors); d != nil || e != api.ErrArg {
			t.Errorf("New(%d) = %v, %v", sectors, d, e)
		}
	}
	b := laid(t, 4)
	b.readFails(3, 2, api.ErrRange)
	b.readFails(-1, 1, api.ErrRange)
	b.readFails(0, 0, api.ErrRange)
	b.is("Write of 255 bytes", b.d.Write(0, make([]byte, 255), false), api.ErrArg)
	b.write(1, "ab", api.OK)
	b.write(2, "a", api.OK)
	b.dirty(1, 2)
	b.reads(2, "a")
	b.d.Crash([]int{1, 1})
	b.reads(1, "ab")
	b.writeFUA(0, "a", api.OK)
	b.d.Crash(nil)
	b.reads(0, "a")
	b.fail(api.FailWrite, 2, api.OK)
	b.write(0, "b", api.OK)
	b.write(0, "a", api.ErrWrite)
	b.reads(0, "b")
	b.write(0, "a", api.OK)
	b.d.Crash(nil)
	b.cut(1, api.OK)
	b.write(0, "a", api.OK)
	b.flush(api.ErrFlush)
	b.reads(0, "a")
	b.d.Crash([]int{-1})
	b.reads(0, "a")
	b.flush(api.OK)
}

// TestNew: 1 to 4096 sectors, all of them noughts and durable.
func TestNew(t *testing.T) {
	for _, sectors := range []int{math.MinInt, -4096, -1, 0, 4097, 4098, 8192, 1 << 32, math.MaxInt} {
		if d, e := disk.New(sectors); d != nil || e != api.ErrArg {
			t.Errorf("New(%d) = %v, %v", sectors, d, e)
		}
	}
	for _, sectors := range []int{1, 2, 3, 255, 256, 257, 4095, 4096} {
		b := laid(t, sectors)
		if size := b.d.Size(); size != sectors {
			t.Errorf("Size = %d, not %d", size, sectors)
		}
		b.dirty()
		for range 2 {
			data, e := b.d.Read(0, sectors)
			if e != api.OK || !bytes.Equal(data, make([]byte, 256*sectors)) {
				t.Errorf("a new disk of %d sectors reads as %d bytes, %v", sectors, len(data), e)
			}
			b.d.Crash([]int{1, 1, 1})
		}
	}
}

// TestSizeStays: whatever is done.
func TestSizeStays(t *testing.T) {
	b := laid(t, 5)
	b.write(3, "ab", api.OK)
	b.write(4, "ab", api.ErrRange)
	b.flush(api.OK)
	b.writeFUA(0, "abcde", api.OK)
	b.cut(0, api.OK)
	b.d.Crash([]int{1})
	if size := b.d.Size(); size != 5 {
		t.Errorf("Size = %d", size)
	}
}

// TestTwoDisks: one's sectors, faults and cuts are not the other's.
func TestTwoDisks(t *testing.T) {
	one, other := laid(t, 2), laid(t, 2)
	one.write(0, "a", api.OK)
	one.fail(api.FailRead, 1, api.OK)
	one.cut(0, api.OK)
	other.reads(0, "--")
	other.dirty()
	other.write(1, "b", api.OK)
	other.flush(api.OK)
	other.d.Crash(nil)
	other.reads(0, "-b")
	one.readFails(0, 1, api.ErrRead)
	one.write(1, "c", api.ErrWrite)
	one.reads(0, "a-")
}

// farOff are places and counts, with a disk of four sectors, that do not all stand on it; also where their sum leaves int.
func farOff() [][2]int {
	l := [][2]int{{0, 5}, {1, 4}, {2, 3}, {3, 2}, {4, 1}, {5, 1}, {4096, 1}, {-1, 1}, {-1, 2}, {-1, 5}, {-2, 3}, {-4, 4}, {-4, 8}, {2, 4}, {3, 4}, {3, 256}}
	for _, at := range []int{0, 1, 3, 4, -1, 1 << 31, 1 << 32, 1<<32 + 1, 1 << 56, math.MaxInt, math.MaxInt - 1, math.MinInt, math.MinInt + 1} {
		for _, count := range []int{1 << 31, 1<<32 + 1, 1 << 55, 1<<56 + 1, 1 << 62, math.MaxInt - 1, math.MaxInt} {
			l = append(l, [2]int{at, count})
		}
		if at < 0 || at > 3 {
			l = append(l, [2]int{at, 1}, [2]int{at, 4})
		}
	}
	return l
}

// TestReadPlaces: whatever stands on the disk as a whole is read, and nothing else.
func TestReadPlaces(t *testing.T) {
	b := laid(t, 4)
	b.write(0, "abcd", api.OK)
	for at := range 4 {
		for count := 1; at+count <= 4; count++ {
			b.reads(at, "abcd"[at:at+count])
		}
		for _, count := range []int{0, -1, -2, -4, 4 - 2*at, -at, math.MinInt, math.MinInt + 1, math.MinInt + 4} {
			if count <= 0 {
				b.readFails(at, count, api.ErrRange)
			}
		}
	}
	for _, l := range farOff() {
		b.readFails(l[0], l[1], api.ErrRange)
	}
	b.readFails(4, 0, api.ErrRange)
	b.readFails(-1, 0, api.ErrRange)
	b.readFails(5, -1, api.ErrRange)
	b.readFails(math.MinInt, math.MinInt, api.ErrRange)
	b.readFails(math.MaxInt, math.MinInt, api.ErrRange)
	great := laid(t, 4096)
	great.write(4095, "z", api.OK)
	great.reads(4094, "-z")
	great.readFails(4095, 2, api.ErrRange)
	great.readFails(4096, 1, api.ErrRange)
	great.readFails(0, 4097, api.ErrRange)
}

// TestWritePlaces: whatever stands on the disk as a whole is written, and nothing else.
func TestWritePlaces(t *testing.T) {
	for _, fua := range []bool{false, true} {
		for at := range 4 {
			for count := 1; at+count <= 4; count++ {
				b := laid(t, 4)
				b.is("Write", b.d.Write(at, full("abcd"[:count]), fua), api.OK)
				b.reads(0, "----"[:at]+"abcd"[:count]+"----"[at+count:])
			}
		}
		b := laid(t, 4)
		for _, l := range farOff() {
			if l[1] <= 256 {
				b.is("Write", b.d.Write(l[0], make([]byte, 256*l[1]), fua), api.ErrRange)
			}
		}
		b.is("Write of too much", b.d.Write(0, full("abcde"), fua), api.ErrRange)
		b.is("Write over the end", b.d.Write(3, full("ab"), fua), api.ErrRange)
		b.is("Write behind the end", b.d.Write(4, full("a"), fua), api.ErrRange)
		b.is("Write ahead of the beginning", b.d.Write(-1, full("ab"), fua), api.ErrRange)
		b.dirty()
		b.reads(0, "----")
	}
	great := laid(t, 4096)
	great.is("Write of all", great.d.Write(0, make([]byte, 256*4096), true), api.OK)
	great.is("Write of one more", great.d.Write(0, make([]byte, 256*4097), true), api.ErrRange)
	great.write(4096, "a", api.ErrRange)
	great.write(4095, "ab", api.ErrRange)
	great.write(4095, "a", api.OK)
	great.dirty(4095)
}

// TestWriteLengths: data is whole sectors, and not none.
func TestWriteLengths(t *testing.T) {
	b := laid(t, 4)
	for _, fua := range []bool{false, true} {
		b.is("Write of nil", b.d.Write(0, nil, fua), api.ErrArg)
		b.is("Write of spare room alone", b.d.Write(0, make([]byte, 0, 512), fua), api.ErrArg)
		for _, length := range []int{0, 1, 2, 64, 128, 240, 252, 255, 257, 511, 513, 767, 769, 1023, 1025, 2049, 65535} {
			b.is("Write", b.d.Write(0, make([]byte, length, length+256), fua), api.ErrArg)
		}
	}
	b.dirty()
	b.is("Write of 256 bytes", b.d.Write(0, make([]byte, 256), false), api.OK)
	b.is("Write of 512 bytes", b.d.Write(2, make([]byte, 512), false), api.OK)
	b.dirty(0, 2, 3)
}

// TestWhichFirst: ErrArg is told ahead of ErrRange, and that ahead of what fails.
func TestWhichFirst(t *testing.T) {
	b := laid(t, 4)
	b.fail(api.FailRead, 1, api.OK)
	b.fail(api.FailWrite, 1, api.OK)
	b.cut(0, api.OK)
	for _, at := range []int{-1, 0, 4, math.MaxInt, math.MinInt} {
		b.is("Write of no byte", b.d.Write(at, nil, true), api.ErrArg)
		b.is("Write of 255 bytes", b.d.Write(at, make([]byte, 255), false), api.ErrArg)
		b.is("Write of too much and a byte", b.d.Write(at, make([]byte, 256*9+1), true), api.ErrArg)
	}
	b.write(4, "a", api.ErrRange)
	b.write(-1, "a", api.ErrRange)
	b.writeFUA(3, "ab", api.ErrRange)
	b.readFails(4, 1, api.ErrRange)
	b.readFails(0, 0, api.ErrRange)
	b.write(0, "a", api.ErrWrite)
	b.readFails(0, 1, api.ErrRead)
	b.reads(0, "----")
	b.dirty()
}

// TestRefusedChangesNothing: neither what stands there, nor what persists.
func TestRefusedChangesNothing(t *testing.T) {
	b := laid(t, 4)
	b.writeFUA(0, "abcd", api.OK)
	b.write(2, "x", api.OK)
	b.write(2, "yz", api.OK)
	b.write(3, "pq", api.ErrRange)
	b.writeFUA(-1, "pq", api.ErrRange)
	b.is("Write of 300 bytes", b.d.Write(2, make([]byte, 300), true), api.ErrArg)
	b.fail(api.FailWrite, 1, api.OK)
	b.writeFUA(1, "pqr", api.ErrWrite)
	b.fail(api.FailFlush, 1, api.OK)
	b.flush(api.ErrFlush)
	b.dirty(2, 3)
	b.reads(0, "abyz")
	b.d.Crash([]int{1, 0})
	b.reads(0, "abxd")
}

// TestSectorsInOrder: the bytes of a sector, and sectors one behind the other, stand as they were handed in.
func TestSectorsInOrder(t *testing.T) {
	b := laid(t, 9)
	data := make([]byte, 7*256)
	for i := range data {
		data[i] = byte(i*7 + i>>8*13)
	}
	for _, fua := range []bool{false, true} {
		b.is("Write", b.d.Write(1, data, fua), api.OK)
		if got, e := b.d.Read(1, 7); e != api.OK || !bytes.Equal(got, data) {
			t.Errorf("other bytes are read than were written (%v)", e)
		}
		if got, e := b.d.Read(3, 2); e != api.OK || !bytes.Equal(got, data[512:1024]) {
			t.Errorf("other bytes of the sectors 3 and 4 (%v)", e)
		}
		b.reads(0, "-")
		b.reads(8, "-")
	}
}

// TestHandedIn: what was handed in, its spare room too, is neither changed nor kept.
func TestHandedIn(t *testing.T) {
	for _, fua := range []bool{false, true} {
		b := laid(t, 4)
		room := full("abcd")
		data := room[:512]
		b.is("Write", b.d.Write(0, data, fua), api.OK)
		b.is("Write", b.d.Write(1, data, fua), api.OK)
		b.reads(0, "aab-")
		if !bytes.Equal(room, full("abcd")) {
			t.Error("what was handed in was changed by a Write")
		}
		copy(room, full("zzzz"))
		b.reads(0, "aab-")
		b.flush(api.OK)
		b.reads(0, "aab-")
		b.d.Crash(nil)
		b.reads(0, "aab-")
		if !bytes.Equal(room, full("zzzz")) {
			t.Error("what was handed in was changed later")
		}
	}
	b := laid(t, 4)
	data := full("ab")
	b.is("Write", b.d.Write(0, data, false), api.OK)
	copy(data, full("zz"))
	picks := []int{1, -1, 5, 7}
	b.d.Crash(picks[:2])
	b.reads(0, "ab--")
	if !slices.Equal(picks, []int{1, -1, 5, 7}) {
		t.Errorf("the picks became %v", picks)
	}
	b.write(0, "cd", api.OK)
	picks[0], picks[1] = 0, 0
	b.d.Crash(nil)
	b.reads(0, "ab--")
}

// TestTold: what was told, its spare room too, is nobody else's.
func TestTold(t *testing.T) {
	b := laid(t, 4)
	b.writeFUA(0, "ab", api.OK)
	b.write(1, "cd", api.OK)
	for range 2 {
		first, _ := b.d.Read(0, 4)
		again, _ := b.d.Read(0, 4)
		clear(first[:cap(first)])
		if !bytes.Equal(again, full("acd-")) {
			t.Errorf("what another Read told became %s", short(again))
		}
		_ = append(again[:256], full("zz")...)
		b.reads(0, "acd-")
		l, other := b.d.Dirty(), b.d.Dirty()
		for i := range l[:cap(l)] {
			l[:cap(l)][i] = 3
		}
		if !slices.Equal(other, []int{1, 2}) {
			t.Errorf("what another Dirty told became %v", other)
		}
		b.dirty(1, 2)
	}
	for at := range 4 { // sectors that are durable, and dirty ones, by themselves and together
		for count := 1; at+count <= 4; count++ {
			told, _ := b.d.Read(at, count)
			clear(told[:cap(told)])
			b.reads(0, "acd-")
		}
	}
	told, _ := b.d.Read(0, 3)
	b.write(0, "xyz", api.OK)
	b.d.Crash([]int{0, 2, 2})
	if !bytes.Equal(told, full("acd")) {
		t.Errorf("what was told became %s by what was done later", short(told))
	}
	b.reads(0, "ayz-")
	told, _ = b.d.Read(1, 2)
	clear(told)
	b.d.Crash(nil)
	b.reads(0, "ayz-")
}
