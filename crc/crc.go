// Package crc is layer 1: sums of bytes (CRC32C); see shared/doc/01-crc.md.
package crc

import "sync"

// polynomial is that of CRC32C, its lowest power in the highest bit.
const polynomial = 0x82F63B78

// Table is what sums are made with. Many goroutines may ask one at a time, so nothing but its once may lead to a write of its sums.
type Table struct {
	once sync.Once
	sums [256]uint32
}

// New is one. Its numbers are left to whoever asks first: a table that is never asked costs no reckoning.
func New() *Table { return &Table{} }

// Sum is the CRC32C of some bytes.
func (t *Table) Sum(data []byte) uint32 { return t.More(0, data) }

// More is the sum of what was summed, with more bytes behind it.
func (t *Table) More(sum uint32, data []byte) uint32 {
	t.once.Do(t.fill)
	sum = ^sum
	for _, b := range data {
		sum = t.sums[byte(sum)^b] ^ sum>>8
	}
	return ^sum
}

// fill makes the table's numbers.
func (t *Table) fill() {
	for i := range t.sums {
		t.sums[i] = eightTimes(uint32(i))
	}
}

// eightTimes is what a number comes to when a byte's eight bits are shifted out of it.
func eightTimes(n uint32) uint32 {
	for range 8 {
		low := n & 1
		n >>= 1
		if low == 1 {
			n ^= polynomial
		}
	}
	return n
}
