package counts

import (
	"slices"

	"polder/api"
	"polder/codec"
)

// Body is a page of counts.
func (c *Counts) Body(i int) []byte {
	if !c.isPart(i) {
		return nil
	}
	first, end := c.part(i)
	l := make([]int, api.PerCounts)
	copy(l, c.now[first:end])
	body, _ := codec.PutCounts(l) // no count is ever out of its bounds, so that it is not refused
	return body
}

// Load takes a page of counts.
func (c *Counts) Load(i int, body []byte) api.Errno {
	if !c.isPart(i) {
		return api.ErrRange
	}
	l, ok := codec.GetCounts(body)
	if !ok {
		return api.ErrImage
	}
	first, end := c.part(i)
	behind := l[end-first:]
	if slices.ContainsFunc(behind, isReferred) {
		return api.ErrImage
	}
	copy(c.now[first:end], l)
	// Else an Undo would bring back what was there ahead of what is loaded.
	for p := first; p < end; p++ {
		delete(c.was, p)
	}
	return api.OK
}

// isReferred tells whether a count is one of a page that is referred to.
func isReferred(count int) bool { return count > 0 }

// isPart tells whether there is such a page of counts.
func (c *Counts) isPart(i int) bool { return i >= 0 && i < Many(len(c.now)) }

// part is which pages a page of counts tells of: the first one, and the end behind the last.
func (c *Counts) part(i int) (first, end int) {
	first = i * api.PerCounts
	return first, min(first+api.PerCounts, len(c.now))
}
