package pdu_test

import (
	"bytes"
	"encoding/binary"
	"fmt"
	"hash/crc32"
	"math/rand/v2"
	"testing"

	"polder/api"
	"polder/crc"
	"polder/pdu"
)

// answer is what Parse answers.
type answer struct {
	p    pdu.PDU
	size int
	e    api.Errno
}

// asked is the answer of Parse, with a table.
func asked(b []byte, w way, most int) answer {
	p, size, e := pdu.Parse(crc.New(), b, w.head, w.data, most)
	return answer{p, size, e}
}

// parsed: Parse answers just so.
func parsed(t *testing.T, what string, b []byte, w way, most int, want answer) {
	t.Helper()
	got := asked(b, w, most)
	if got.size != want.size || got.e != want.e || !same(got.p, want.p) {
		t.Errorf("%s, %+v, most %d: Parse = %+v, not %+v", what, w, most, got, want)
	}
}

// without is a PDU without Data.
func without(p pdu.PDU) pdu.PDU {
	p.Data = nil
	return p
}

// isSum tells whether 4 bytes are the sum of others.
func isSum(b, summed []byte) bool {
	return binary.LittleEndian.Uint32(b) == crc32.Checksum(summed, crc32.MakeTable(crc32.Castagnoli))
}

// told is the answer that the chapter has for some bytes, if there is a table.
func (w way) told(b []byte, most int) answer {
	n := w.size()
	if most < 0 || most > 1024 {
		return answer{e: api.ErrArg}
	}
	if len(b) < n {
		return answer{}
	}
	if w.head && !isSum(b[48:52], b[:48]) {
		return answer{size: n, e: api.ErrSum}
	}
	u32 := func(at int) int { return int(binary.BigEndian.Uint32(b[at:])) }
	p := pdu.PDU{Op: int(b[0]) % 64, Immediate: int(b[0])/64%2 == 1, Flags: int(b[1]), Info: int(b[2])*256 + int(b[3]),
		Wide: u32(8)*65536 + u32(10)%65536, Short: u32(12) % 65536, Tag: u32(16), Word: u32(20), Num: u32(24), Exp: u32(28), Tail: [16]byte(b[32:48])}
	many := u32(4) % (1 << 24)
	if b[0] >= 128 || b[4] != 0 {
		return answer{p, n, api.ErrHeader}
	}
	if many > most {
		return answer{p, n, api.ErrLong}
	}
	filled := many
	for filled%4 != 0 {
		filled++
	}
	whole := n + filled
	if w.data && many > 0 {
		whole += 4
	}
	if len(b) < whole {
		return answer{}
	}
	if w.data && many > 0 && !isSum(b[n+filled:whole], b[n:n+filled]) {
		return answer{p, whole, api.ErrDigest}
	}
	p.Data = append([]byte{}, b[n:n+many]...)
	return answer{p, whole, api.OK}
}

// resummed is bytes of a PDU whose header was changed, with the header's sum right again.
func (w way) resummed(b []byte) []byte {
	b = bytes.Clone(b)
	if w.head {
		copy(b[48:52], withSum(nil, b[:48]))
	}
	return b
}

// TestParseExamples: those of the chapter.
func TestParseExamples(t *testing.T) {
	p := pdu.PDU{Op: 1, Flags: 192, Tag: 7, Data: []byte("abcde")}
	b := way{}.written(p)
	parsed(t, "47 bytes", b[:47], way{}, 1024, answer{})
	parsed(t, "3 more", append(bytes.Clone(b), 1, 2, 3), way{}, 1024, answer{p, 56, api.OK})
	parsed(t, "55 bytes", b[:55], way{}, 1024, answer{})
	parsed(t, "most 4", b, way{}, 4, answer{without(p), 48, api.ErrLong})
	c := bytes.Clone(b)
	c[4] = 1
	parsed(t, "byte 4 is 1", c, way{}, 1024, answer{without(p), 48, api.ErrHeader})
	c = bytes.Clone(b)
	c[0] = 129
	parsed(t, "byte 0 is 129", c, way{}, 1024, answer{without(p), 48, api.ErrHeader})
}

// TestParseLayout: each field of the bytes that the table has for it.
func TestParseLayout(t *testing.T) {
	b := make([]byte, 52)
	for i := range b {
		b[i] = byte(i + 64)
	}
	b[4], b[5], b[6], b[7] = 0, 0, 0, 3
	want := pdu.PDU{Op: 0, Immediate: true, Flags: 0x41, Info: 0x4243, Wide: 0x48494a4b4c4d, Short: 0x4e4f, Tag: 0x50515253, Word: 0x54555657, Num: 0x58595a5b, Exp: 0x5c5d5e5f, Data: []byte{0x70, 0x71, 0x72}}
	for i := range want.Tail {
		want.Tail[i] = byte(0x60 + i)
	}
	parsed(t, "bytes that rise", b, way{}, 3, answer{want, 52, api.OK})
	for i := range b {
		b[i] = 255
	}
	b[0], b[4], b[5], b[6], b[7] = 127, 0, 0, 0, 0
	want = pdu.PDU{Op: 63, Immediate: true, Flags: 255, Info: 65535, Wide: 1<<48 - 1, Short: 65535, Tag: 1<<32 - 1, Word: 1<<32 - 1, Num: 1<<32 - 1, Exp: 1<<32 - 1}
	for i := range want.Tail {
		want.Tail[i] = 255
	}
	parsed(t, "bytes of 255", b, way{}, 1024, answer{want, 48, api.OK})
	parsed(t, "noughts", make([]byte, 48), way{}, 0, answer{pdu.PDU{}, 48, api.OK})
}

// TestParseArgs: no table, or a most out of its bounds, is told ahead of all else.
func TestParseArgs(t *testing.T) {
	for _, w := range ways() {
		whole := w.written(plain())
		bad := bytes.Clone(whole)
		bad[0], bad[4], bad[5], bad[len(bad)-1] = 255, 1, 255, bad[len(bad)-1]^1
		for what, b := range map[string][]byte{"whole": whole, "no byte": nil, "short": whole[:20], "not whole": whole[:w.size()+1], "bad": bad, "long": w.resummed(append(bytes.Clone(whole[:5]), append([]byte{255}, whole[6:]...)...))} {
			for _, most := range []int{-1 << 63, -1024, -1, 1025, 1028, 1 << 24, 1<<63 - 1} {
				parsed(t, what, b, w, most, answer{e: api.ErrArg})
			}
			for _, most := range []int{-1, 0, 5, 1024, 1025} {
				if p, size, e := pdu.Parse(nil, b, w.head, w.data, most); !same(p, pdu.PDU{}) || size != 0 || e != api.ErrArg {
					t.Errorf("%s, %+v, no table, most %d: Parse = %+v, %d, %v", what, w, most, p, size, e)
				}
			}
		}
		parsed(t, "most 1024", whole, w, 1024, answer{plain(), len(whole), api.OK})
		parsed(t, "most 0", whole, w, 0, answer{without(plain()), w.size(), api.ErrLong})
		none := w.written(without(plain()))
		parsed(t, "most 0, no Data", none, w, 0, answer{without(plain()), len(none), api.OK})
	}
}

// TestParseWhole: Parse of Print is the PDU, whatever stands behind; of one that is not whole nothing is taken.
func TestParseWhole(t *testing.T) {
	r := rand.New(rand.NewPCG(18, 2))
	for _, w := range ways() {
		for _, n := range []int{0, 1, 2, 3, 4, 5, 6, 7, 8, 9, 100, 1019, 1020, 1021, 1022, 1023, 1024} {
			p := random(r)
			p.Data = some(n)
			b, e := pdu.Print(crc.New(), p, w.head, w.data)
			if e != api.OK {
				t.Fatalf("Print: %v", e)
			}
			what := fmt.Sprint(n, " bytes of Data")
			parsed(t, what, b, w, 1024, answer{p, len(b), api.OK})
			parsed(t, what+", just as many as may be", b, w, n, answer{p, len(b), api.OK})
			for _, more := range [][]byte{{0}, {255}, {1, 2, 3, 4}, b, make([]byte, 3000)} {
				parsed(t, what+", and more behind", append(bytes.Clone(b), more...), w, 1024, answer{p, len(b), api.OK})
			}
			for end := range b {
				parsed(t, fmt.Sprint(what, ", ", end, " bytes of it"), b[:end], w, 1024, answer{})
			}
		}
	}
}

// TestParseShort: less than a header, and its sum, is told of as that, whatever stands there.
func TestParseShort(t *testing.T) {
	for _, w := range ways() {
		b := bytes.Repeat([]byte{255}, w.size())
		for end := range w.size() {
			parsed(t, fmt.Sprint(end, " bytes"), b[:end], w, 0, answer{})
		}
		parsed(t, "no slice", nil, w, 0, answer{})
	}
	bad := bytes.Repeat([]byte{255}, 48)
	parsed(t, "a bad header whose sum is not all there", bad, way{head: true}, 0, answer{})
	if got := asked(bad, way{}, 0); got.size != 48 || got.e != api.ErrHeader {
		t.Errorf("a bad header: %+v", got)
	}
}

// TestParseSum: one bit of the header, or of its sum, that is not right is told of, ahead of all that the header tells.
func TestParseSum(t *testing.T) {
	for _, data := range []bool{false, true} {
		w := way{true, data}
		b := w.written(plain())
		for bit := range 52 * 8 {
			c := bytes.Clone(b)
			c[bit/8] ^= 1 << (bit % 8)
			parsed(t, fmt.Sprint("bit ", bit), c, w, 1024, answer{size: 52, e: api.ErrSum})
			parsed(t, fmt.Sprint("bit ", bit, ", nothing behind"), c[:52], w, 0, answer{size: 52, e: api.ErrSum})
		}
		c := bytes.Clone(b)
		c[48], c[49], c[50], c[51] = c[51], c[50], c[49], c[48]
		parsed(t, "the sum's highest byte first", c, w, 1024, answer{size: 52, e: api.ErrSum})
		c = bytes.Clone(b)
		c[len(c)-1] ^= 1
		c[51] ^= 1
		parsed(t, "both sums are wrong", c, w, 1024, answer{size: 52, e: api.ErrSum})
	}
}

// TestParseHeader: byte 0 from 128 on, byte 4 that is not 0, or both; ahead of what Data's length tells, and of Data.
func TestParseHeader(t *testing.T) {
	for _, w := range ways() {
		b := w.written(plain())
		for first := range 256 {
			for _, fourth := range []byte{0, 1, 2, 128, 255} {
				c := bytes.Clone(b)
				c[0], c[4] = byte(first), fourth
				p := plain()
				p.Op, p.Immediate = first%64, first/64%2 == 1
				what := fmt.Sprint("byte 0 is ", first, ", byte 4 is ", fourth)
				if first < 128 && fourth == 0 {
					parsed(t, what, w.resummed(c), w, 1024, answer{p, len(b), api.OK})
					continue
				}
				want := answer{without(p), w.size(), api.ErrHeader}
				parsed(t, what, w.resummed(c), w, 1024, want)
				parsed(t, what+", too long", w.resummed(c), w, 4, want)
				parsed(t, what+", not whole", w.resummed(c)[:w.size()], w, 1024, want)
				parsed(t, what+", too long and not whole", w.resummed(c)[:w.size()+5], w, 0, want)
				c[len(c)-1] ^= 1
				parsed(t, what+", with another last byte", w.resummed(c), w, 1024, want)
			}
		}
	}
}

// TestParseLong: Data that is longer than most, ahead of what isn't there of it, or not right.
func TestParseLong(t *testing.T) {
	for _, w := range ways() {
		for _, n := range []int{1, 2, 3, 4, 5, 1023, 1024} {
			p := plain()
			p.Data = some(n)
			b := w.written(p)
			want := answer{without(p), w.size(), api.ErrLong}
			parsed(t, fmt.Sprint(n, " bytes"), b, w, n, answer{p, len(b), api.OK})
			parsed(t, fmt.Sprint(n, " bytes"), b, w, n-1, want)
			parsed(t, fmt.Sprint(n, " bytes"), b, w, 0, want)
			parsed(t, fmt.Sprint(n, " bytes, of which none is there"), b[:w.size()], w, n-1, want)
			c := bytes.Clone(b)
			c[len(c)-1] ^= 1
			parsed(t, fmt.Sprint(n, " bytes, with another last byte"), c, w, n-1, want)
		}
		for _, length := range [][]byte{{0, 4, 1}, {0, 8, 0}, {1, 0, 0}, {1, 0, 5}, {128, 0, 0}, {255, 255, 255}} {
			b := w.written(plain())
			copy(b[5:8], length)
			parsed(t, fmt.Sprint("length ", length), w.resummed(b), w, 1024, answer{without(plain()), w.size(), api.ErrLong})
			parsed(t, fmt.Sprint("length ", length, ", nothing behind"), w.resummed(b)[:w.size()], w, 1024, answer{without(plain()), w.size(), api.ErrLong})
		}
	}
}

// TestParseRest: a PDU lacks a byte, has all, or more; a wrong sum of Data that is not whole is not told of.
func TestParseRest(t *testing.T) {
	for _, w := range ways() {
		for _, n := range []int{1, 2, 3, 4, 5} {
			p := plain()
			p.Data = some(n)
			b := w.written(p)
			c := bytes.Clone(b)
			c[w.size()] ^= 1
			what := fmt.Sprint(n, " bytes")
			parsed(t, what+", but one", b[:len(b)-1], w, 1024, answer{})
			parsed(t, what+", but one, Data is another", c[:len(b)-1], w, 1024, answer{})
			parsed(t, what+", just all", b, w, 1024, answer{p, len(b), api.OK})
			parsed(t, what+", and one more", append(bytes.Clone(b), 9), w, 1024, answer{p, len(b), api.OK})
		}
	}
}

// TestParseDigest: one bit of Data, of the noughts behind it or of their sum that is not right: the PDU without Data.
func TestParseDigest(t *testing.T) {
	for _, head := range []bool{false, true} {
		w := way{head, true}
		for _, n := range []int{1, 2, 3, 4, 5, 1024} {
			p := plain()
			p.Data = some(n)
			b := w.written(p)
			for at := w.size(); at < len(b); at++ {
				c := bytes.Clone(b)
				c[at] ^= 1 << (at % 8)
				want := answer{without(p), len(b), api.ErrDigest}
				parsed(t, fmt.Sprint(n, " bytes, byte ", at), c, w, 1024, want)
				parsed(t, fmt.Sprint(n, " bytes, byte ", at, ", more behind"), append(c, b...), w, 1024, want)
			}
		}
		c := w.written(plain())
		z := len(c) - 4
		c[z], c[z+1], c[z+2], c[z+3] = c[z+3], c[z+2], c[z+1], c[z]
		parsed(t, "the sum's highest byte first", c, w, 1024, answer{without(plain()), len(c), api.ErrDigest})
		none := w.written(without(plain()))
		parsed(t, "no Data, and no sum", none, w, 1024, answer{without(plain()), len(none), api.OK})
		parsed(t, "no Data, and anything behind", append(none, 1, 2, 3, 4), w, 1024, answer{without(plain()), w.size(), api.OK})
	}
}

// TestParseBehindData: the bytes behind Data may be any where no sum takes them in, and where theirs does.
func TestParseBehindData(t *testing.T) {
	for _, w := range ways() {
		for n := 1; n <= 8; n++ {
			p := plain()
			p.Data = some(n)
			b := w.written(p)
			end := len(b)
			if w.data {
				end -= 4
			}
			for at := w.size() + n; at < end; at++ {
				b[at] = byte(200 + at)
			}
			if w.data {
				b = withSum(b[:end], b[w.size():end])
			}
			parsed(t, fmt.Sprint(n, " bytes, and no noughts"), b, w, 1024, answer{p, len(b), api.OK})
		}
	}
}

// TestParseNeeds: with N + 1024 + 4 bytes there is always something to tell; what stands behind them changes nothing.
func TestParseNeeds(t *testing.T) {
	r := rand.New(rand.NewPCG(18, 3))
	for range 4000 {
		w := ways()[r.IntN(4)]
		b := make([]byte, 4096)
		for i := range b {
			b[i] = byte(r.Uint32())
		}
		b[0] %= 130
		b[4], b[5] = byte(r.IntN(8)/7), byte(r.IntN(8)/7)
		copy(b[6:8], [][]byte{{4, 0}, {3, 255}, {byte(r.IntN(6)), byte(r.IntN(256))}}[r.IntN(3)])
		b = w.resummed(b)
		enough := b[:w.size()+1024+4]
		most := []int{0, r.IntN(1025), 1024}[r.IntN(3)]
		got := asked(enough, w, most)
		if got.size == 0 {
			t.Fatalf("%+v, most %d: nothing is taken of %v", w, most, enough[:w.size()])
		}
		parsed(t, "more bytes", b, w, most, got)
	}
}

// TestParseRandom: PDUs, changed, cut off or with more behind, each as the chapter has it.
func TestParseRandom(t *testing.T) {
	r := rand.New(rand.NewPCG(18, 4))
	seen := map[api.Errno]int{}
	for range 20000 {
		w := ways()[r.IntN(4)]
		p := random(r)
		b := w.written(p)
		most := []int{1024, 1024, 1024, len(p.Data), r.IntN(1025), r.IntN(2)*1026 - 1}[r.IntN(6)]
		for range r.IntN(3) {
			b[r.IntN(len(b))] ^= 1 << r.IntN(8)
		}
		if r.IntN(4) == 0 {
			b[[]int{0, 4, 5, 6, 7}[r.IntN(5)]] = byte(r.Uint32())
		}
		if r.IntN(2) == 0 {
			b = w.resummed(b)
		}
		switch r.IntN(4) {
		case 0:
			b = b[:r.IntN(len(b)+1)]
		case 1:
			b = append(b, some(r.IntN(1200))...)
		}
		want := w.told(b, most)
		seen[want.e]++
		parsed(t, "random", b, w, most, want)
	}
	for _, e := range []api.Errno{api.OK, api.ErrArg, api.ErrSum, api.ErrHeader, api.ErrLong, api.ErrDigest} {
		if seen[e] < 50 {
			t.Errorf("%v was told %d times", e, seen[e])
		}
	}
}

// TestParseStream: PDUs one behind the other are taken one by one.
func TestParseStream(t *testing.T) {
	r := rand.New(rand.NewPCG(18, 5))
	for _, w := range ways() {
		var all []pdu.PDU
		var b []byte
		for range 50 {
			p := random(r)
			all, b = append(all, p), append(b, w.written(p)...)
		}
		for i, p := range all {
			got := asked(b, w, 1024)
			if got.e != api.OK || got.size < 48 || got.size > len(b) || !same(got.p, p) {
				t.Fatalf("%+v, PDU %d: %+v, not %+v", w, i, got, p)
			}
			b = b[got.size:]
		}
		if len(b) != 0 {
			t.Errorf("%+v: %d bytes are left", w, len(b))
		}
	}
}

// TestParseMemory: the bytes are left as they are, their spare room too; what is told of them shares no memory with them, nor with another answer.
func TestParseMemory(t *testing.T) {
	for _, w := range ways() {
		for _, n := range []int{1, 3, 4, 5, 1024} {
			p := plain()
			p.Data = some(n)
			b := w.written(p)
			room := append(bytes.Clone(b), some(64)...)
			before := bytes.Clone(room)
			x, y := asked(room[:len(b)], w, 1024), asked(room[:len(b)], w, 1024)
			if !bytes.Equal(room, before) {
				t.Errorf("%+v, %d bytes: the bytes, or their spare room, were changed", w, n)
			}
			scribble(x.p.Data)
			if !bytes.Equal(room, before) || !same(y.p, p) {
				t.Errorf("%+v, %d bytes: Data is shared", w, n)
			}
			scribble(room)
			if !same(y.p, p) {
				t.Errorf("%+v, %d bytes: what is told hangs on the bytes", w, n)
			}
		}
		for _, most := range []int{-1, 0, 4, 1024} {
			b := w.written(plain())
			b[4] = 1
			before := bytes.Clone(b)
			asked(b, w, most)
			asked(b[:50], w, most)
			if !bytes.Equal(b, before) {
				t.Errorf("%+v, most %d: the bytes were changed", w, most)
			}
		}
	}
}

// TestParseNoData: Data of no byte is nothing.
func TestParseNoData(t *testing.T) {
	for _, w := range ways() {
		if got := asked(w.written(without(plain())), w, 1024); len(got.p.Data) != 0 || got.e != api.OK {
			t.Errorf("%+v: %+v", w, got)
		}
	}
}
