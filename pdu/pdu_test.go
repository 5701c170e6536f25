package pdu_test

import (
	"bytes"
	"encoding/binary"
	"fmt"
	"hash/crc32"
	"math/rand/v2"
	"reflect"
	"testing"

	"polder/api"
	"polder/crc"
	"polder/pdu"
)

// way is how a PDU is written: with which sums.
type way struct{ head, data bool }

func ways() []way {
	return []way{{false, false}, {true, false}, {false, true}, {true, true}}
}

// size is how many bytes stand ahead of Data.
func (w way) size() int {
	if w.head {
		return 52
	}
	return 48
}

// withSum is some bytes and their sum behind them, its lowest byte first.
func withSum(b, summed []byte) []byte {
	return binary.LittleEndian.AppendUint32(b, crc32.Checksum(summed, crc32.MakeTable(crc32.Castagnoli)))
}

// written is what the chapter's table says of a PDU that may be printed.
func (w way) written(p pdu.PDU) []byte {
	first := byte(p.Op)
	if p.Immediate {
		first += 64
	}
	b := []byte{first, byte(p.Flags)}
	b = binary.BigEndian.AppendUint16(b, uint16(p.Info))
	b = append(b, 0, byte(len(p.Data)>>16), byte(len(p.Data)>>8), byte(len(p.Data)))
	b = binary.BigEndian.AppendUint16(b, uint16(p.Wide>>32))
	b = binary.BigEndian.AppendUint32(b, uint32(p.Wide))
	b = binary.BigEndian.AppendUint16(b, uint16(p.Short))
	for _, n := range []int{p.Tag, p.Word, p.Num, p.Exp} {
		b = binary.BigEndian.AppendUint32(b, uint32(n))
	}
	b = append(b, p.Tail[:]...)
	if w.head {
		b = withSum(b, b)
	}
	data := append([]byte{}, p.Data...)
	for len(data)%4 != 0 {
		data = append(data, 0)
	}
	b = append(b, data...)
	if w.data && len(data) > 0 {
		b = withSum(b, data)
	}
	return b
}

// some is n bytes, of which none is 0.
func some(n int) []byte {
	b := make([]byte, n)
	for i := range b {
		b[i] = byte(1 + i%255)
	}
	return b
}

// plain is a PDU whose fields all differ, in each of their bytes too.
func plain() pdu.PDU {
	p := pdu.PDU{Op: 37, Flags: 0xa1, Info: 0xa2a3, Wide: 0xb1b2b3b4b5b6, Short: 0xb7b8, Tag: 0xc1c2c3c4, Word: 0xc5c6c7c8, Num: 0xd1d2d3d4, Exp: 0xd5d6d7d8, Data: []byte("abcde")}
	for i := range p.Tail {
		p.Tail[i] = byte(0xe0 + i)
	}
	return p
}

// number is a field of a PDU that has whole bytes, and how many.
type number struct {
	name  string
	bytes int
	field func(p *pdu.PDU) *int
}

func numbers() []number {
	return []number{
		{"Flags", 1, func(p *pdu.PDU) *int { return &p.Flags }},
		{"Info", 2, func(p *pdu.PDU) *int { return &p.Info }},
		{"Wide", 6, func(p *pdu.PDU) *int { return &p.Wide }},
		{"Short", 2, func(p *pdu.PDU) *int { return &p.Short }},
		{"Tag", 4, func(p *pdu.PDU) *int { return &p.Tag }},
		{"Word", 4, func(p *pdu.PDU) *int { return &p.Word }},
		{"Num", 4, func(p *pdu.PDU) *int { return &p.Num }},
		{"Exp", 4, func(p *pdu.PDU) *int { return &p.Exp }},
	}
}

// random is any PDU that may be printed.
func random(r *rand.Rand) pdu.PDU {
	p := pdu.PDU{Op: r.IntN(64), Immediate: r.IntN(2) == 1, Data: make([]byte, []int{0, r.IntN(9), r.IntN(1025)}[r.IntN(3)])}
	for _, n := range numbers() {
		*n.field(&p) = r.IntN(1 << (8 * n.bytes))
	}
	for i := range p.Tail {
		p.Tail[i] = byte(r.Uint32())
	}
	for i := range p.Data {
		p.Data[i] = byte(r.Uint32())
	}
	return p
}

// same tells whether two PDUs are one; nil and empty Data are.
func same(a, b pdu.PDU) bool {
	if !bytes.Equal(a.Data, b.Data) {
		return false
	}
	a.Data, b.Data = nil, nil
	return reflect.DeepEqual(a, b)
}

// printed: Print writes just these bytes.
func printed(t *testing.T, what string, p pdu.PDU, w way, want []byte) {
	t.Helper()
	if got, e := pdu.Print(crc.New(), p, w.head, w.data); e != api.OK || !bytes.Equal(got, want) {
		t.Errorf("%s, %+v: Print = %v, %v, not %v", what, w, got, e, want)
	}
}

// refused: Print doesn't write it, whichever sums are asked for.
func refused(t *testing.T, what string, table *crc.Table, p pdu.PDU) {
	t.Helper()
	for _, w := range ways() {
		if got, e := pdu.Print(table, p, w.head, w.data); got != nil || e != api.ErrArg {
			t.Errorf("%s, %+v: Print = %v, %v, not ErrArg", what, w, got, e)
		}
	}
}

// TestPrintExamples: those of the chapter, byte for byte.
func TestPrintExamples(t *testing.T) {
	p := pdu.PDU{Op: 1, Flags: 192, Tag: 7, Data: []byte("abcde")}
	want := make([]byte, 56)
	want[0], want[1], want[7], want[19] = 1, 192, 5, 7
	copy(want[48:], "abcde")
	printed(t, "the chapter's", p, way{}, want)
	if b, e := pdu.Print(crc.New(), p, true, true); len(b) != 64 || e != api.OK {
		t.Errorf("with head and data: %d bytes, %v", len(b), e)
	}
	refused(t, "Op 64", crc.New(), pdu.PDU{Op: 64})
	refused(t, "Tag -1", crc.New(), pdu.PDU{Tag: -1})
	refused(t, "1025 bytes", crc.New(), pdu.PDU{Data: make([]byte, 1025)})
}

// TestPrintLayout: each byte of the header where the table has it, the highest one of a number first.
func TestPrintLayout(t *testing.T) {
	want := []byte{37, 0xa1, 0xa2, 0xa3, 0, 0, 0, 5, 0xb1, 0xb2, 0xb3, 0xb4, 0xb5, 0xb6, 0xb7, 0xb8,
		0xc1, 0xc2, 0xc3, 0xc4, 0xc5, 0xc6, 0xc7, 0xc8, 0xd1, 0xd2, 0xd3, 0xd4, 0xd5, 0xd6, 0xd7, 0xd8,
		0xe0, 0xe1, 0xe2, 0xe3, 0xe4, 0xe5, 0xe6, 0xe7, 0xe8, 0xe9, 0xea, 0xeb, 0xec, 0xed, 0xee, 0xef,
		'a', 'b', 'c', 'd', 'e', 0, 0, 0}
	printed(t, "plain", plain(), way{}, want)
	p := plain()
	p.Immediate = true
	want[0] = 37 + 64
	printed(t, "Immediate", p, way{}, want)
	p.Data = some(0x3fd)
	b, e := pdu.Print(crc.New(), p, false, false)
	if e != api.OK || len(b) != 48+0x400 || !bytes.Equal(b[4:8], []byte{0, 0, 3, 0xfd}) {
		t.Errorf("1021 bytes of Data: %d bytes, %v, %v", len(b), b[4:8], e)
	}
}

// TestPrintSums: the header's behind it, Data's behind the noughts, which it takes in; the lowest byte first.
func TestPrintSums(t *testing.T) {
	sum := crc.New()
	b, e := pdu.Print(sum, plain(), true, true)
	if e != api.OK || len(b) != 64 {
		t.Fatalf("Print: %d bytes, %v", len(b), e)
	}
	for _, x := range []struct{ from, to int }{{0, 48}, {52, 60}} {
		n := sum.Sum(b[x.from:x.to])
		if want := []byte{byte(n), byte(n >> 8), byte(n >> 16), byte(n >> 24)}; !bytes.Equal(b[x.to:x.to+4], want) {
			t.Errorf("the sum of bytes %d to %d: %v, not %v", x.from, x.to, b[x.to:x.to+4], want)
		}
	}
	if !bytes.Equal(b[52:60], []byte("abcde\x00\x00\x00")) {
		t.Errorf("Data behind the header's sum: %v", b[52:60])
	}
}

// TestPrintData: Data of each length, in all ways, Immediate or not; none of no byte has a sum.
func TestPrintData(t *testing.T) {
	sizes := map[int]int{0: 0, 1: 4, 2: 4, 3: 4, 4: 4, 5: 8, 8: 8, 9: 12, 1020: 1020, 1021: 1024, 1022: 1024, 1023: 1024, 1024: 1024}
	for n, filled := range sizes {
		for _, w := range ways() {
			for _, immediate := range []bool{false, true} {
				p := plain()
				p.Immediate, p.Data = immediate, some(n)
				printed(t, fmt.Sprint(n, " bytes"), p, w, w.written(p))
				want := w.size() + filled
				if w.data && n > 0 {
					want += 4
				}
				if b, _ := pdu.Print(crc.New(), p, w.head, w.data); len(b) != want {
					t.Errorf("%d bytes of Data, %+v: %d bytes, not %d", n, w, len(b), want)
				}
			}
		}
	}
	for _, w := range ways() {
		p := plain()
		p.Data = nil
		printed(t, "nil Data", p, w, w.written(p))
		p.Data = []byte{}
		printed(t, "empty Data", p, w, w.written(p))
	}
	for _, n := range []int{1025, 1028, 2048, 1 << 16, 1 << 24} {
		p := plain()
		p.Data = make([]byte, n)
		refused(t, fmt.Sprint(n, " bytes"), crc.New(), p)
	}
}

// TestPrintNumbers: each field at its edges, and beyond them.
func TestPrintNumbers(t *testing.T) {
	for _, op := range []int{0, 1, 31, 32, 62, 63} {
		for _, immediate := range []bool{false, true} {
			p := plain()
			p.Op, p.Immediate = op, immediate
			printed(t, fmt.Sprint("Op ", op), p, way{}, way{}.written(p))
		}
	}
	for _, op := range []int{-1 << 63, -64, -1, 64, 65, 127, 128, 255, 256, 1 << 32, 1<<63 - 1} {
		p := plain()
		p.Op = op
		refused(t, fmt.Sprint("Op ", op), crc.New(), p)
	}
	for _, n := range numbers() {
		end := 1 << (8 * n.bytes)
		for _, v := range []int{0, 1, end / 2, end - 1} {
			p := plain()
			*n.field(&p) = v
			printed(t, fmt.Sprint(n.name, " ", v), p, way{}, way{}.written(p))
			p = pdu.PDU{}
			*n.field(&p) = v
			printed(t, fmt.Sprint(n.name, " alone ", v), p, way{}, way{}.written(p))
		}
		for _, v := range []int{-1 << 63, -end, -1, end, end + 1, 1 << 62, 1<<63 - 1} {
			p := plain()
			*n.field(&p) = v
			refused(t, fmt.Sprint(n.name, " ", v), crc.New(), p)
			p = pdu.PDU{}
			*n.field(&p) = v
			refused(t, fmt.Sprint(n.name, " alone ", v), crc.New(), p)
		}
	}
}

// TestPrintNoTable: without one nothing is printed, with or without sums.
func TestPrintNoTable(t *testing.T) {
	refused(t, "nil", nil, plain())
	refused(t, "nil, a PDU of nothing", nil, pdu.PDU{})
	refused(t, "nil, Op 64", nil, pdu.PDU{Op: 64})
}

// TestPrintRandom: any PDU in any way, as the chapter's table has it, whatever the table was asked before.
func TestPrintRandom(t *testing.T) {
	r := rand.New(rand.NewPCG(18, 1))
	sum := crc.New()
	for range 3000 {
		p, w := random(r), ways()[r.IntN(4)]
		if b, e := pdu.Print(sum, p, w.head, w.data); e != api.OK || !bytes.Equal(b, w.written(p)) {
			t.Fatalf("%+v, %+v: Print = %v, %v, not %v", p, w, b, e, w.written(p))
		}
	}
}

// scribble changes all of a slice, its spare room too.
func scribble(b []byte) {
	b = b[:cap(b)]
	for i := range b {
		b[i] ^= 0x5a
	}
}

// TestPrintMemory: Data is left as it is, its spare room too; what is answered shares no memory with it, nor with another answer.
func TestPrintMemory(t *testing.T) {
	for _, w := range ways() {
		for _, n := range []int{0, 1, 3, 4, 5, 1021, 1024} {
			room := some(1100)
			p := plain()
			p.Data = room[:n]
			want := w.written(p)
			a, _ := pdu.Print(crc.New(), p, w.head, w.data)
			if !bytes.Equal(room, some(1100)) {
				t.Errorf("%+v, %d bytes: Data, or its spare room, was changed", w, n)
			}
			b, _ := pdu.Print(crc.New(), p, w.head, w.data)
			scribble(a)
			if !bytes.Equal(room, some(1100)) || !bytes.Equal(b, want) {
				t.Errorf("%+v, %d bytes: what was answered is shared", w, n)
			}
			scribble(room)
			if !bytes.Equal(b, want) {
				t.Errorf("%+v, %d bytes: what was answered hangs on Data", w, n)
			}
		}
	}
}
