package disk_test

import (
	"math"
	"testing"

	"polder/api"
)

// TestFailArguments: kinds and numbers at their edges and beyond.
func TestFailArguments(t *testing.T) {
	b := laid(t, 2)
	for _, kind := range []int{math.MinInt, -1, 0, 4, 5, 257, 1<<32 + 1, math.MaxInt} {
		for _, n := range []int{-1, 0, 1, 2, api.MaxNumber} {
			b.fail(kind, n, api.ErrArg)
		}
	}
	for kind := 1; kind <= 3; kind++ {
		for _, n := range []int{math.MinInt, -api.MaxNumber, -1, 0, 1<<40 + 1, 1 << 41, math.MaxInt} {
			b.fail(kind, n, api.ErrArg)
		}
	}
	b.allDone(9)
	for kind := 1; kind <= 3; kind++ {
		for _, n := range []int{1 << 31, 1 << 32, 1<<32 + 1, 1<<40 - 1, 1 << 40} {
			b.fail(kind, n, api.OK)
			b.allDone(9)
		}
	}
}

// allDone asks that nothing fails, for so many rounds.
func (b bench) allDone(rounds int) {
	b.Helper()
	for range rounds {
		b.do(api.FailRead, api.OK)
		b.do(api.FailWrite, api.OK)
		b.do(api.FailFlush, api.OK)
	}
}

// do does one operation of a kind.
func (b bench) do(kind int, want api.Errno) {
	b.Helper()
	switch kind {
	case api.FailRead:
		if want == api.OK {
			b.reads(1, "-")
		} else {
			b.readFails(1, 1, want)
		}
	case api.FailWrite:
		b.write(0, "a", want)
	case api.FailFlush:
		b.flush(want)
	}
}

// failure is what an operation of a kind that fails answers.
func failure(kind int) api.Errno {
	return [...]api.Errno{api.FailRead: api.ErrRead, api.FailWrite: api.ErrWrite, api.FailFlush: api.ErrFlush}[kind]
}

// TestFail: the n-th one of the kind fails, and no other, whatever the other kinds do.
func TestFail(t *testing.T) {
	for kind := 1; kind <= 3; kind++ {
		for n := 1; n <= 9; n++ {
			b := laid(t, 2)
			b.do(kind, api.OK)
			b.fail(kind, n, api.OK)
			for i := 1; i <= 25; i++ {
				for other := 1; other <= 3; other++ {
					if other == kind && i == n {
						b.do(other, failure(kind))
					} else {
						b.do(other, api.OK)
					}
				}
			}
		}
	}
}

// TestFailEachKind: one of each kind may be to fail at a time.
func TestFailEachKind(t *testing.T) {
	b := laid(t, 2)
	b.fail(api.FailRead, 3, api.OK)
	b.fail(api.FailFlush, 1, api.OK)
	b.fail(api.FailWrite, 2, api.OK)
	for i := 1; i <= 6; i++ {
		for kind, n := range []int{api.FailRead: 3, api.FailWrite: 2, api.FailFlush: 1} {
			if n == i {
				b.do(kind, failure(kind))
			} else if kind > 0 {
				b.do(kind, api.OK)
			}
		}
	}
}

// TestFailAgain: of a kind the last Fail alone counts, from when it was asked; one that is refused counts nothing.
func TestFailAgain(t *testing.T) {
	for kind := 1; kind <= 3; kind++ {
		b := laid(t, 2)
		b.fail(kind, 2, api.OK)
		b.fail(kind, 4, api.OK)
		b.do(kind, api.OK)
		b.do(kind, api.OK)
		b.do(kind, api.OK)
		b.do(kind, failure(kind))
		b.do(kind, api.OK)
		b.fail(kind, 5, api.OK)
		b.do(kind, api.OK)
		b.do(kind, api.OK)
		b.fail(kind, 2, api.OK)
		b.fail(kind, 0, api.ErrArg)
		b.fail(kind, 1<<40+1, api.ErrArg)
		b.fail(0, 1, api.ErrArg)
		b.fail(4, 1, api.ErrArg)
		b.do(kind, api.OK)
		b.do(kind, failure(kind))
		b.allDone(9)
		b.fail(kind, 1, api.OK)
		b.do(kind, failure(kind))
		b.fail(kind, 1, api.OK)
		b.do(kind, failure(kind))
		b.allDone(9)
	}
}

// TestFailRefusedAhead: calls that are refused by something named ahead are not counted, nor do they end it.
func TestFailRefusedAhead(t *testing.T) {
	for n := 1; n <= 3; n++ {
		b := laid(t, 2)
		b.fail(api.FailRead, n, api.OK)
		b.fail(api.FailWrite, n, api.OK)
		for i := 1; i <= 6; i++ {
			b.readFails(2, 1, api.ErrRange)
			b.readFails(0, 0, api.ErrRange)
			b.readFails(-1, 1, api.ErrRange)
			b.write(2, "a", api.ErrRange)
			b.writeFUA(1, "ab", api.ErrRange)
			b.is("Write of no byte", b.d.Write(0, nil, false), api.ErrArg)
			b.is("Write of a byte", b.d.Write(0, make([]byte, 1), true), api.ErrArg)
			b.cut(-1, api.ErrArg)
			if i == n {
				b.do(api.FailRead, api.ErrRead)
				b.do(api.FailWrite, api.ErrWrite)
			} else {
				b.do(api.FailRead, api.OK)
				b.do(api.FailWrite, api.OK)
			}
		}
	}
}

// TestFailManySectors: a call is one, however many sectors it has, with FUA and without.
func TestFailManySectors(t *testing.T) {
	b := laid(t, 4)
	b.fail(api.FailRead, 2, api.OK)
	b.fail(api.FailWrite, 3, api.OK)
	b.write(0, "abcd", api.OK)
	b.reads(0, "abcd")
	b.readFails(0, 4, api.ErrRead)
	b.writeFUA(0, "efgh", api.OK)
	b.writeFUA(0, "ijkl", api.ErrWrite)
	b.reads(0, "efgh")
	b.writeFUA(0, "mnop", api.OK)
	b.reads(0, "mnop")
}

// TestFailChangesNothing: what fails writes nothing and makes nothing durable.
func TestFailChangesNothing(t *testing.T) {
	for _, fua := range []bool{false, true} {
		b := laid(t, 2)
		b.write(0, "a", api.OK)
		b.fail(api.FailWrite, 1, api.OK)
		b.is("Write", b.d.Write(0, full("bc"), fua), api.ErrWrite)
		b.fail(api.FailFlush, 1, api.OK)
		b.flush(api.ErrFlush)
		b.fail(api.FailRead, 1, api.OK)
		b.readFails(0, 2, api.ErrRead)
		b.reads(0, "a-")
		b.dirty(0)
		b.d.Crash([]int{2, 1})
		b.reads(0, "--")
	}
}

// TestFailWhileCut: one that fails because the disk is cut counts, too.
func TestFailWhileCut(t *testing.T) {
	b := laid(t, 2)
	b.fail(api.FailWrite, 3, api.OK)
	b.fail(api.FailFlush, 2, api.OK)
	b.fail(api.FailRead, 2, api.OK)
	b.cut(0, api.OK)
	b.write(0, "a", api.ErrWrite)
	b.write(2, "a", api.ErrRange)
	b.writeFUA(0, "a", api.ErrWrite)
	b.flush(api.ErrFlush)
	b.reads(0, "--")
	b.cut(9, api.OK)
	b.write(0, "a", api.ErrWrite)
	b.flush(api.ErrFlush)
	b.readFails(0, 1, api.ErrRead)
	b.allDone(1)
}

// TestFailIsOverWhileCut: if the one that is to fail comes while the disk is cut, none is to fail any more.
func TestFailIsOverWhileCut(t *testing.T) {
	b := laid(t, 2)
	b.cut(0, api.OK)
	b.fail(api.FailWrite, 1, api.OK)
	b.fail(api.FailFlush, 2, api.OK)
	for range 5 {
		b.do(api.FailWrite, api.ErrWrite)
		b.do(api.FailFlush, api.ErrFlush)
		b.do(api.FailRead, api.OK)
	}
	b.cut(api.MaxNumber, api.OK)
	b.allDone(9)
}

// TestCutArguments: its number at its edges and beyond.
func TestCutArguments(t *testing.T) {
	b := laid(t, 2)
	for _, n := range []int{math.MinInt, -api.MaxNumber, -2, -1, 1<<40 + 1, 1 << 41, math.MaxInt} {
		b.cut(n, api.ErrArg)
		b.allDone(3)
	}
	for _, n := range []int{1 << 31, 1 << 32, 1<<32 + 1, 1<<40 - 1, 1 << 40} {
		b.cut(n, api.OK)
		b.allDone(9)
	}
}

// TestCut: when so many writes and flushes were done, in whatever order, all others fail, and reads do not, until a crash.
func TestCut(t *testing.T) {
	for n := range 9 {
		for every := 1; every <= 4; every++ {
			b := laid(t, 2)
			b.cut(n, api.OK)
			for i := range 30 {
				kind := api.FailWrite
				if i%every == 0 {
					kind = api.FailFlush
				}
				if i < n {
					b.do(kind, api.OK)
				} else {
					b.do(kind, failure(kind))
					b.writeFUA(0, "a", api.ErrWrite)
				}
				b.do(api.FailRead, api.OK)
			}
			b.d.Crash(nil)
			b.allDone(9)
		}
	}
}

// TestCutCountsWhatWasDone: a write of many sectors is one, with FUA too; reads, and what is refused or fails, are none.
func TestCutCountsWhatWasDone(t *testing.T) {
	b := laid(t, 4)
	b.cut(3, api.OK)
	b.write(0, "abcd", api.OK)
	b.reads(0, "abcd")
	b.write(4, "a", api.ErrRange)
	b.is("Write of a byte", b.d.Write(0, make([]byte, 1), false), api.ErrArg)
	b.fail(api.FailWrite, 1, api.OK)
	b.write(0, "x", api.ErrWrite)
	b.fail(api.FailFlush, 1, api.OK)
	b.flush(api.ErrFlush)
	b.fail(api.FailRead, 1, api.OK)
	b.readFails(0, 1, api.ErrRead)
	b.d.Dirty()
	b.d.Size()
	b.writeFUA(0, "efgh", api.OK)
	b.flush(api.OK)
	b.write(0, "x", api.ErrWrite)
	b.flush(api.ErrFlush)
	b.writeFUA(0, "x", api.ErrWrite)
	b.write(4, "a", api.ErrRange)
	b.is("Write of a byte", b.d.Write(0, make([]byte, 1), false), api.ErrArg)
	b.reads(0, "efgh")
}

// TestCutAgain: the last Cut alone counts, from when it was asked; one that is refused counts nothing.
func TestCutAgain(t *testing.T) {
	b := laid(t, 2)
	b.cut(1, api.OK)
	b.cut(3, api.OK)
	b.flush(api.OK)
	b.write(0, "a", api.OK)
	b.cut(2, api.OK)
	b.cut(-1, api.ErrArg)
	b.cut(1<<40+1, api.ErrArg)
	b.write(0, "b", api.OK)
	b.flush(api.OK)
	b.flush(api.ErrFlush)
	b.cut(0, api.OK)
	b.flush(api.ErrFlush)
	b.cut(-1, api.ErrArg)
	b.write(0, "c", api.ErrWrite)
	b.cut(1, api.OK)
	b.write(0, "d", api.OK)
	b.write(0, "e", api.ErrWrite)
	b.reads(0, "d-")
	b.d.Crash(nil)
	b.reads(0, "b-")
	b.cut(0, api.OK)
	b.write(0, "f", api.ErrWrite)
	b.d.Crash(nil)
	b.write(0, "g", api.OK)
	b.reads(0, "g-")
}

// TestCutKeepsVersions: what was written ahead of it may persist, or not; what failed behind it can't.
func TestCutKeepsVersions(t *testing.T) {
	for pick, want := range []string{"Z-", "a-", "b-", "Z-", "a-"} {
		b := laid(t, 2)
		b.writeFUA(0, "Z", api.OK)
		b.cut(2, api.OK)
		b.write(0, "a", api.OK)
		b.write(0, "b", api.OK)
		b.write(0, "cc", api.ErrWrite)
		b.writeFUA(0, "dd", api.ErrWrite)
		b.flush(api.ErrFlush)
		b.dirty(0)
		b.reads(0, "b-")
		b.d.Crash([]int{pick, 1})
		b.reads(0, want)
	}
}
