package codec

// cursor is what is still to be written or read of a record: a slice of an array that the record has to itself, so that what is answered may lie in it.
type cursor []byte

// take is the next bytes; they have no spare room, so that whoever is handed them has none of what stands behind them.
func (c *cursor) take(count int) []byte {
	part := (*c)[:count:count]
	*c = (*c)[count:]
	return part
}

// mark writes a sector's mark.
func (c *cursor) mark(text string) { copy(c.take(len(text)), text) }

// write writes a number of so many bytes, its highest one first.
func (c *cursor) write(width, n int) {
	part := c.take(width)
	for i := range part {
		part[i] = byte(n >> (8 * (width - 1 - i)))
	}
}

// read reads one. One of eight bytes may be too great for an int and come out below 0: no record may have it, the one as the other.
func (c *cursor) read(width int) int {
	n := 0
	for _, b := range c.take(width) {
		n = n<<8 | int(b)
	}
	return n
}

// readAll reads some of one width.
func (c *cursor) readAll(count, width int) []int {
	if count == 0 {
		return nil
	}
	l := make([]int, count)
	for i := range l {
		l[i] = c.read(width)
	}
	return l
}
