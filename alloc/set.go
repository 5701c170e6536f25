package alloc

import "math/bits"

// wordBits is how many pages a word tells of.
const wordBits = 64

// set is pages, as bits: page p is bit p % wordBits of word p / wordBits. The bits behind the last page are never set, so that they count for nothing.
type set []uint64

// newSet has room for so many pages, and none of them.
func newSet(n int) set { return make(set, (n+wordBits-1)/wordBits) }

// bit is a page's own in its word.
func bit(p int) uint64 { return 1 << (p % wordBits) }

// has tells whether a page is in it.
func (s set) has(p int) bool { return s[p/wordBits]&bit(p) != 0 }

// put puts a page in.
func (s set) put(p int) { s[p/wordBits] |= bit(p) }

// remove takes a page out.
func (s set) remove(p int) { s[p/wordBits] &^= bit(p) }

// putAll puts in what another set of as many pages has.
func (s set) putAll(other set) {
	for i, word := range other {
		s[i] |= word
	}
}

// count is how many pages are in it.
func (s set) count() int {
	n := 0
	for _, word := range s {
		n += bits.OnesCount64(word)
	}
	return n
}

// next is the least page from p on that is in it; behind all words, if there is none.
func (s set) next(p int) int { return s.seek(p, 0) }

// gap is the least page from p on that is not in it.
func (s set) gap(p int) int { return s.seek(p, ^uint64(0)) }

// seek is the least page from p on whose bit is another one than its word's of flip; behind all words, if there is none.
func (s set) seek(p int, flip uint64) int {
	for p < len(s)*wordBits {
		if word := (s[p/wordBits] ^ flip) >> (p % wordBits); word != 0 {
			return p + bits.TrailingZeros64(word)
		}
		p += wordBits - p%wordBits
	}
	return p
}
