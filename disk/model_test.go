package disk_test

import (
	"bytes"
	"fmt"
	"math"
	"math/rand/v2"
	"slices"
	"testing"

	"polder/api"
)

// event is one sector's being written.
type event struct {
	at   int
	data []byte
}

// story is a disk as the chapter tells it: what is durable, and all that was written behind it, in order.
type story struct {
	durable [][]byte
	events  []event
	counted [4]int // operations of each kind since its last Fail that nothing ahead refused
	failing [4]int // which of them is to fail; 0: none
	done    int    // writes and flushes since the last Cut
	cutAt   int    // behind how many of them the disk is cut; -1: it won't be
}

func newStory(sectors int) *story {
	s := &story{cutAt: -1}
	for range sectors {
		s.durable = append(s.durable, make([]byte, 256))
	}
	return s
}

// of is the versions of a sector.
func (s *story) of(at int) [][]byte {
	var l [][]byte
	for _, v := range s.events {
		if v.at == at {
			l = append(l, v.data)
		}
	}
	return l
}

// settle makes durable what is asked for, by the number of a version.
func (s *story) settle(at, version int) {
	if version > 0 {
		s.durable[at] = s.of(at)[version-1]
	}
	s.events = slices.DeleteFunc(s.events, func(v event) bool { return v.at == at })
}

func (s *story) dirty() []int {
	var l []int
	for at := range s.durable {
		if len(s.of(at)) > 0 {
			l = append(l, at)
		}
	}
	return l
}

// fails counts an operation and tells what it is answered.
func (s *story) fails(kind int) api.Errno {
	s.counted[kind]++
	if s.counted[kind] == s.failing[kind] || kind != api.FailRead && s.cutAt >= 0 && s.done >= s.cutAt {
		return failure(kind)
	}
	if kind != api.FailRead {
		s.done++
	}
	return api.OK
}

func (s *story) stand(at, count int) bool {
	return at >= 0 && at < len(s.durable) && count >= 1 && count <= len(s.durable) && at+count <= len(s.durable)
}

func (s *story) read(at, count int) ([]byte, api.Errno) {
	if !s.stand(at, count) {
		return nil, api.ErrRange
	}
	if e := s.fails(api.FailRead); e != api.OK {
		return nil, e
	}
	var data []byte
	for i := at; i < at+count; i++ {
		last := append([][]byte{s.durable[i]}, s.of(i)...)
		data = append(data, last[len(last)-1]...)
	}
	return data, api.OK
}

func (s *story) write(at int, data []byte, fua bool) api.Errno {
	if len(data) == 0 || len(data)%256 != 0 {
		return api.ErrArg
	}
	if !s.stand(at, len(data)/256) {
		return api.ErrRange
	}
	if e := s.fails(api.FailWrite); e != api.OK {
		return e
	}
	for part := range slices.Chunk(bytes.Clone(data), 256) {
		s.events = append(s.events, event{at, part})
		if fua {
			s.settle(at, len(s.of(at)))
		}
		at++
	}
	return api.OK
}

func (s *story) flush() api.Errno {
	if e := s.fails(api.FailFlush); e != api.OK {
		return e
	}
	for _, at := range s.dirty() {
		s.settle(at, len(s.of(at)))
	}
	return api.OK
}

func (s *story) fail(kind, n int) api.Errno {
	if kind < 1 || kind > 3 || n < 1 || n > 1<<40 {
		return api.ErrArg
	}
	s.counted[kind], s.failing[kind] = 0, n
	return api.OK
}

func (s *story) cut(n int) api.Errno {
	if n < 0 || n > 1<<40 {
		return api.ErrArg
	}
	s.done, s.cutAt = 0, n
	return api.OK
}

func (s *story) crash(picks []int) {
	for k, at := range s.dirty() {
		versions, p := len(s.of(at)), 0
		if k < len(picks) {
			for p = picks[k]; p < 0; p += versions + 1 {
			}
			p %= versions + 1
		}
		s.settle(at, p)
	}
	s.failing, s.cutAt = [4]int{}, -1
}

// randomPlace is mostly a place on the disk, at times one beside it or far off.
func randomPlace(random *rand.Rand, sectors int) int {
	switch random.IntN(20) {
	case 0:
		return -random.IntN(3)
	case 1:
		return sectors + random.IntN(3)
	case 2:
		return []int{math.MinInt, math.MaxInt, 1 << 32, 1 << 56}[random.IntN(4)]
	}
	return random.IntN(sectors)
}

// randomData is mostly whole sectors, at times not.
func randomData(random *rand.Rand, sectors int) []byte {
	length := 256 * (1 + random.IntN(min(sectors, 4)))
	switch random.IntN(20) {
	case 0:
		length = 0
	case 1:
		length += 1 - 2*random.IntN(2)
	case 2:
		length = 256 * (sectors + 1)
	}
	data := make([]byte, length)
	for i := range data {
		data[i] = byte(random.Uint32())
	}
	return data
}

func randomPicks(random *rand.Rand) []int {
	l := make([]int, random.IntN(10))
	for i := range l {
		l[i] = random.IntN(40) - 20
	}
	return l
}

// both asks a disk and a story the same, and tells it with their answers.
func both(random *rand.Rand, b bench, s *story) (call string, got, want any) {
	sectors := len(s.durable)
	switch random.IntN(14) {
	case 0, 1, 2, 3, 4:
		at, data, fua := randomPlace(random, sectors), randomData(random, sectors), random.IntN(4) == 0
		return fmt.Sprintf("Write(%d, %d bytes, %v)", at, len(data), fua), b.d.Write(at, data, fua), s.write(at, data, fua)
	case 5, 6, 7:
		at, count := randomPlace(random, sectors), randomPlace(random, sectors)
		data, e := b.d.Read(at, count)
		other, f := s.read(at, count)
		return fmt.Sprintf("Read(%d, %d)", at, count), fmt.Sprintf("%x, %v", data, e), fmt.Sprintf("%x, %v", other, f)
	case 8:
		return "Flush", b.d.Flush(), s.flush()
	case 9, 10:
		kind, n := random.IntN(5), random.IntN(7)
		return fmt.Sprintf("Fail(%d, %d)", kind, n), b.d.Fail(kind, n), s.fail(kind, n)
	case 11:
		n := random.IntN(9) - 1
		return fmt.Sprintf("Cut(%d)", n), b.d.Cut(n), s.cut(n)
	case 12:
		picks := randomPicks(random)
		b.d.Crash(picks)
		s.crash(picks)
		return fmt.Sprintf("Crash(%v)", picks), nil, nil
	}
	return "Dirty", fmt.Sprint(b.d.Dirty()), fmt.Sprint(s.dirty())
}

// TestAsTold asks many calls, of whatever kinds and in whatever order, of disks and of the chapter's story of them.
func TestAsTold(t *testing.T) {
	for seed := range uint64(60) {
		random := rand.New(rand.NewPCG(seed, 3))
		sectors := 1 + random.IntN(9)
		b, s := laid(t, sectors), newStory(sectors)
		for i := range 300 {
			if call, got, want := both(random, b, s); got != want {
				t.Fatalf("seed %d, call %d: %s = %v, not %v", seed, i, call, got, want)
			}
		}
	}
}

// TestPersists: what was flushed, or written with FUA, is there behind any crash.
func TestPersists(t *testing.T) {
	for seed := range uint64(200) {
		random := rand.New(rand.NewPCG(seed, 4))
		b := laid(t, 8)
		for range random.IntN(30) {
			b.d.Write(random.IntN(8), randomData(random, 1), false)
		}
		if seed%2 == 0 {
			b.flush(api.OK)
		} else {
			b.writeFUA(0, "abcdefgh", api.OK)
		}
		want, _ := b.d.Read(0, 8)
		for range 3 {
			b.d.Crash(randomPicks(random))
			if got, e := b.d.Read(0, 8); e != api.OK || !bytes.Equal(got, want) {
				t.Fatalf("seed %d: what was durable is gone (%v)", seed, e)
			}
		}
	}
}

// TestTakenBack: a crash without picks takes back all that was neither flushed nor written with FUA.
func TestTakenBack(t *testing.T) {
	for seed := range uint64(200) {
		random := rand.New(rand.NewPCG(seed, 5))
		b := laid(t, 8)
		b.d.Write(0, randomData(random, 8), true)
		b.d.Write(2, randomData(random, 4), false)
		b.flush(api.OK)
		want, _ := b.d.Read(0, 8)
		for range random.IntN(30) {
			b.d.Write(random.IntN(8), randomData(random, 4), false)
		}
		b.d.Crash([][]int{nil, {}}[seed%2])
		if got, e := b.d.Read(0, 8); e != api.OK || !bytes.Equal(got, want) {
			t.Fatalf("seed %d: something was not taken back (%v)", seed, e)
		}
		b.dirty()
	}
}

// TestSameAgain: two disks that were told the same answer the same (R5: on no order of a map's keys).
func TestSameAgain(t *testing.T) {
	story := func() string {
		random := rand.New(rand.NewPCG(1, 6))
		b := laid(t, 4096)
		text := ""
		for range 40 {
			for range 50 {
				b.d.Write(random.IntN(4096), full("a"), false)
			}
			picks := make([]int, 60)
			for i := range picks {
				picks[i] = random.IntN(3)
			}
			text += fmt.Sprint(b.d.Dirty())
			b.d.Crash(picks)
		}
		data, e := b.d.Read(0, 4096)
		return text + short(data) + e.Error()
	}
	want := story()
	for range 3 {
		if story() != want {
			t.Fatal("told the same, it answers otherwise")
		}
	}
}
