package codec_test

import (
	"bytes"
	"fmt"
	"math"
	"math/rand/v2"
	"reflect"
	"testing"

	"polder/api"
	"polder/codec"
)

// same tells whether two records are one; nil and empty lists are.
func same(a, b any) bool { return fmt.Sprintf("%+v", a) == fmt.Sprintf("%+v", b) }

// isNone tells whether an answer is the zero one (no list in it has anything).
func isNone[T any](x T) bool {
	var none T
	return same(x, none)
}

// refused: such a record may not be written.
func (k kind[T]) refused(t *testing.T, what string, x T) {
	t.Helper()
	if b, e := k.put(x); len(b) != 0 || e != api.ErrArg {
		t.Errorf("%s: Put = %d bytes, %v", what, len(b), e)
	}
}

// none: these bytes are no such record's.
func (k kind[T]) none(t *testing.T, what string, b []byte) {
	t.Helper()
	if x, ok := k.get(b); ok || !isNone(x) {
		t.Errorf("%s: Get = %+v, %v", what, x, ok)
	}
}

// some: these bytes are that record's, and it is written so.
func (k kind[T]) some(t *testing.T, what string, x T, b []byte) {
	t.Helper()
	if got, e := k.put(x); e != api.OK || !bytes.Equal(got, b) {
		t.Errorf("%s: Put = %v, %v, not %v", what, got, e, b)
	}
	if got, ok := k.get(b); !ok || !same(got, x) {
		t.Errorf("%s: Get = %+v, %v, not %+v", what, got, ok, x)
	}
}

// TestWritten: Put writes the bytes that the table tells; Get of Put is what was put, and Put of what Get tells the bytes.
func TestWritten(t *testing.T) {
	each(t, sectors(), asked.written)
	each(t, bodies(), asked.written)
}

func (k kind[T]) written(t *testing.T) {
	k.some(t, "the sample", k.sample(), k.sampleBytes())
	for _, x := range k.others() {
		what := fmt.Sprintf("%+v", x)
		b, e := k.put(x)
		if e != api.OK || len(b) != k.size {
			t.Errorf("%s: Put = %d bytes, %v", what, len(b), e)
			continue
		}
		k.some(t, what, x, b)
	}
}

// TestFieldsAtEdges: each number may be its least and its greatest.
func TestFieldsAtEdges(t *testing.T) {
	each(t, sectors(), asked.fieldsAtEdges)
	each(t, bodies(), asked.fieldsAtEdges)
}

func (k kind[T]) fieldsAtEdges(t *testing.T) {
	for _, f := range k.fields {
		for _, n := range []int{f.least, f.least + 1, (f.least + f.most) / 2, f.most - 1, f.most} {
			x := k.sample()
			f.set(&x, n)
			what := fmt.Sprintf("%s at %d is %d", f.name, f.at, n)
			b := k.bytes(x)
			write(b, f.at, f.width, n)
			k.some(t, what, x, seal(b))
		}
	}
}

// TestAnyValues: and anything between them, all at once.
func TestAnyValues(t *testing.T) {
	each(t, sectors(), asked.anyValues)
	each(t, bodies(), asked.anyValues)
}

func (k kind[T]) anyValues(t *testing.T) {
	random := rand.New(rand.NewPCG(uint64(k.listed), 5))
	for i := range 200 {
		x := k.sample()
		for _, f := range k.fields {
			f.set(&x, f.least+random.IntN(f.most-f.least+1)>>random.IntN(12))
			if f.get(&x) < f.least {
				f.set(&x, f.least)
			}
		}
		if k.bodyAt > 0 {
			copy(k.body(x), text(random.Uint32(), 240))
		}
		k.some(t, fmt.Sprintf("the record %d", i), x, k.bytes(x))
	}
}

// TestFieldsBeyond: none may be beyond them, neither in a record nor in bytes whose sum is right.
func TestFieldsBeyond(t *testing.T) {
	each(t, sectors(), asked.fieldsBeyond)
	each(t, bodies(), asked.fieldsBeyond)
}

func (k kind[T]) fieldsBeyond(t *testing.T) {
	for _, f := range k.fields {
		for _, n := range []int{f.least - 1, f.most + 1, 2*f.most + 1, -f.most, math.MinInt, math.MinInt + f.least, math.MaxInt,
			1 << (8 * f.width), 1<<(8*f.width) + f.most, math.MinInt32, 1 << 32, 1<<32 + f.least, 1<<56 + f.most} {
			if n >= f.least && n <= f.most {
				continue
			}
			what := fmt.Sprintf("%s at %d is %d", f.name, f.at, n)
			x := k.sample()
			f.set(&x, n)
			if !f.typed {
				k.refused(t, what, x)
			}
			b := k.sampleBytes()
			write(b, f.at, f.width, n)
			if f.width == 8 || n >= 0 && n < 1<<(8*f.width) {
				k.none(t, what, seal(b))
			}
		}
		k.highBytes(t, f)
	}
}

// highBytes asks bytes in which each bit of a number is set that no record may have.
func (k kind[T]) highBytes(t *testing.T, f field[T]) {
	t.Helper()
	for bit := range 8 * f.width {
		if f.width < 8 && 1<<bit <= f.most || bit <= 40 && 1<<bit <= f.most {
			continue
		}
		b := k.sampleBytes()
		b[f.at+f.width-1-bit/8] |= 1 << (bit % 8)
		k.none(t, fmt.Sprintf("%s at %d with the bit %d", f.name, f.at, bit), seal(b))
	}
}

// TestUnnamed: in the bytes that the table does not name there is 0.
func TestUnnamed(t *testing.T) {
	each(t, sectors(), asked.unnamed)
	each(t, bodies(), asked.unnamed)
}

func (k kind[T]) unnamed(t *testing.T) {
	b, _ := k.put(k.sample())
	for i, named := range k.named() {
		if named {
			continue
		}
		if b[i] != 0 {
			t.Errorf("byte %d is written as %d", i, b[i])
		}
		for _, n := range []byte{1, 0x80, 255} {
			other := k.sampleBytes()
			other[i] = n
			k.none(t, fmt.Sprintf("byte %d is %d", i, n), seal(other))
		}
	}
}

// TestMarked: a sector with another mark is none, though its sum is right.
func TestMarked(t *testing.T) { each(t, sectors(), asked.marked) }

func (k kind[T]) marked(t *testing.T) {
	for i := range len(k.mark) {
		for n := range 256 {
			b := k.sampleBytes()
			b[i] = byte(n)
			if n != int(k.mark[i]) {
				k.none(t, fmt.Sprintf("byte %d of the mark is %d", i, n), seal(b))
			}
		}
	}
	for _, mark := range []string{"PSUP", "PLOG", "PPAG", "psup", "plog", "ppag", "PUSP", "\x00\x00\x00\x00"} {
		b := k.sampleBytes()
		copy(b, mark)
		if mark != k.mark && k.mark != "" {
			k.none(t, fmt.Sprintf("the mark is %q", mark), seal(b))
		}
	}
}

// TestLengths: what has not just the bytes of a sector, or of a body, is no record.
func TestLengths(t *testing.T) {
	each(t, sectors(), asked.lengths)
	each(t, bodies(), asked.lengths)
}

func (k kind[T]) lengths(t *testing.T) {
	b := k.sampleBytes()
	for n := range len(b) {
		k.none(t, fmt.Sprintf("%d bytes", n), b[:n])
		k.none(t, fmt.Sprintf("the last %d bytes", n), b[len(b)-n:])
		k.none(t, fmt.Sprintf("%d bytes 0", n), make([]byte, n))
	}
	k.none(t, "nil", nil)
	for _, more := range []int{1, 16, len(b), 4096} {
		k.none(t, fmt.Sprintf("%d bytes more", more), append(bytes.Clone(b), make([]byte, more)...))
		k.none(t, fmt.Sprintf("%d bytes more ahead", more), append(make([]byte, more), b...))
		k.none(t, fmt.Sprintf("%d bytes 0", len(b)+more), make([]byte, len(b)+more))
	}
}

// TestTampered holds Get against the table: bytes of which some were changed, with the right sum, are a record's just if all is as it may be.
func TestTampered(t *testing.T) {
	each(t, sectors(), asked.tampered)
	each(t, bodies(), asked.tampered)
}

func (k kind[T]) tampered(t *testing.T) {
	random := rand.New(rand.NewPCG(uint64(k.size), uint64(len(k.fields))))
	taken := 0
	for range 4000 {
		b := k.sampleBytes()
		for range 1 + random.IntN(3) {
			at := random.IntN(k.size)
			if at < k.count.at || at >= k.count.at+k.count.width { // how many there are: TestListed
				b[at] = byte(random.IntN(256) >> random.IntN(8))
			}
		}
		x, ok := k.get(seal(b))
		if ok != k.mayBe(b) {
			t.Fatalf("Get of %v = %+v, %v", b, x, ok)
		}
		if !ok {
			if !isNone(x) {
				t.Fatalf("Get of %v = false, but %+v", b, x)
			}
			continue
		}
		taken++
		if again, e := k.put(x); e != api.OK || !bytes.Equal(again, b) {
			t.Fatalf("Put of Get of %v = %v, %v", b, again, e)
		}
		if !bytes.Equal(k.bytes(x), b) {
			t.Fatalf("Get of %v = %+v", b, x)
		}
	}
	if taken == 0 || taken == 4000 {
		t.Errorf("%d of 4000 were records", taken)
	}
}

// mayBe tells by the table whether bytes with the sample's number of numbers, and with the right sum, are a record's.
func (k kind[T]) mayBe(b []byte) bool {
	for i, named := range k.named() {
		if !named && b[i] != 0 {
			return false
		}
	}
	for _, f := range k.fields {
		n := uint64(0)
		for _, by := range b[f.at : f.at+f.width] {
			n = n*256 + uint64(by)
		}
		if n < uint64(f.least) || n > uint64(f.most) {
			return false
		}
	}
	return string(b[:len(k.mark)]) == k.mark
}

// TestChanged: a sector that was changed in up to 32 bits side by side (in the order in which the sum takes them) is none.
func TestChanged(t *testing.T) { each(t, sectors(), asked.changed) }

func (k kind[T]) changed(t *testing.T) {
	b := k.sampleBytes()
	random := rand.New(rand.NewPCG(32, uint64(len(k.fields))))
	for first := range 8 * len(b) {
		for width := 1; width <= min(32, 8*len(b)-first); width++ {
			ends := uint64(1) | 1<<(width-1)
			full := uint64(1)<<width - 1
			for _, pattern := range []uint64{ends, full, ends | full&random.Uint64()} {
				if x, ok := k.get(turned(b, first, pattern)); ok {
					t.Fatalf("bits %b turned from bit %d on: %+v", pattern, first, x)
				}
			}
		}
	}
}

// turned is data with the pattern's bits turned over from a bit on, the lowest of each byte first.
func turned(data []byte, first int, pattern uint64) []byte {
	other := bytes.Clone(data)
	for i := 0; pattern>>i != 0; i++ {
		other[(first+i)/8] ^= byte(pattern>>i&1) << ((first + i) % 8)
	}
	return other
}

// TestHandedIn: what is handed in is neither changed nor kept, its spare room neither.
func TestHandedIn(t *testing.T) {
	each(t, sectors(), asked.handedIn)
	each(t, bodies(), asked.handedIn)
}

func (k kind[T]) handedIn(t *testing.T) {
	x := k.sample()
	roomy(reflect.ValueOf(&x).Elem())
	before := deep(x)
	b, e := k.put(x)
	if e != api.OK || deep(x) != before {
		t.Errorf("Put changed what it was handed: %v", e)
	}
	want := bytes.Clone(b)
	fill(x)
	if !bytes.Equal(b, want) {
		t.Error("what Put answers hangs together with what it was handed")
	}

	room := bytes.Repeat([]byte{77}, 3*k.size)
	copy(room[k.size:], want)
	whole := bytes.Clone(room)
	got, ok := k.get(room[k.size : 2*k.size])
	if !ok || !bytes.Equal(room, whole) {
		t.Errorf("Get changed what it was handed, or its spare room: %v", ok)
	}
	if spared, ok := k.get(room[k.size : 2*k.size-1]); ok {
		t.Errorf("Get looked at spare room: %+v", spared)
	}
	clear(room)
	if !same(got, k.sample()) {
		t.Errorf("what Get answers hangs together with what it was handed: %+v", got)
	}
}

// TestAnswered: what is answered is new memory, its spare room too, at each call; no two lists of it share any.
func TestAnswered(t *testing.T) {
	each(t, sectors(), asked.answered)
	each(t, bodies(), asked.answered)
}

func (k kind[T]) answered(t *testing.T) {
	x := k.sample()
	before := deep(x)
	b, _ := k.put(x)
	want := bytes.Clone(b)
	again, _ := k.put(x)
	whole := b[:cap(b)]
	for i := range whole {
		whole[i] = 99
	}
	if third, _ := k.put(x); !bytes.Equal(again, want) || !bytes.Equal(third, want) || deep(x) != before {
		t.Error("Put answers memory that is not new")
	}

	one, _ := k.get(want)
	two, _ := k.get(want)
	fill(one)
	if three, _ := k.get(want); !same(two, k.sample()) || !same(three, k.sample()) || !bytes.Equal(want, k.sampleBytes()) {
		t.Error("Get answers memory that is not new")
	}
	for i := range lists(reflect.ValueOf(k.sample())) {
		x, _ := k.get(want)
		l := lists(reflect.ValueOf(x))
		clearList(l[i])
		for j, other := range lists(reflect.ValueOf(k.sample())) {
			if j != i && !same(l[j], other) {
				t.Errorf("the lists %d and %d of what Get answers share memory", i, j)
			}
		}
	}
}

// lists are all lists in a record.
func lists(v reflect.Value) []reflect.Value {
	var l []reflect.Value
	switch v.Kind() {
	case reflect.Slice:
		l = append(l, v)
	case reflect.Struct:
		for i := range v.NumField() {
			l = append(l, lists(v.Field(i))...)
		}
	}
	return l
}

// clearList overwrites a list and its spare room.
func clearList(l reflect.Value) {
	whole := l.Slice(0, l.Cap())
	for i := range whole.Len() {
		whole.Index(i).SetZero()
	}
}

// fill overwrites all lists of a record.
func fill(x any) {
	for _, l := range lists(reflect.ValueOf(x)) {
		clearList(l)
	}
}

// roomy gives all lists of a record spare room.
func roomy(v reflect.Value) {
	for _, l := range lists(v) {
		more := reflect.MakeSlice(l.Type(), l.Len()+9, l.Len()+9)
		reflect.Copy(more, l)
		l.Set(more.Slice(0, l.Len()))
	}
}

// deep tells a record with its lists' spare room.
func deep(x any) string {
	s := fmt.Sprintf("%+v", x)
	for _, l := range lists(reflect.ValueOf(x)) {
		s += fmt.Sprintf(" %+v", l.Slice(0, l.Cap()))
	}
	return s
}

// TestNoTable: without a table nothing is written or read, not even a page that was never written.
func TestNoTable(t *testing.T) {
	image := sampleImage()
	head := headKind(3)
	for i, put := range []func() ([]byte, api.Errno){
		func() ([]byte, api.Errno) { return codec.PutSuper(nil, superKind().sample()) },
		func() ([]byte, api.Errno) { return codec.PutHead(nil, head.sample()) },
		func() ([]byte, api.Errno) { return codec.PutPage(nil, image) },
		func() ([]byte, api.Errno) { return codec.PutImage(nil, 1, 2, image) },
		func() ([]byte, api.Errno) { return codec.PutSuper(nil, api.Super{Gen: -1}) },
		func() ([]byte, api.Errno) { return codec.PutHead(nil, api.Head{}) },
		func() ([]byte, api.Errno) { return codec.PutPage(nil, api.Image{}) },
		func() ([]byte, api.Errno) { return codec.PutImage(nil, -1, -2, api.Image{}) },
	} {
		if b, e := put(); b != nil || e != api.ErrArg {
			t.Errorf("Put %d = %v, %v", i, b, e)
		}
	}
	if s, ok := codec.GetSuper(nil, superKind().bytes(superKind().sample())); ok || !isNone(s) {
		t.Errorf("GetSuper = %+v, %v", s, ok)
	}
	if h, ok := codec.GetHead(nil, head.bytes(head.sample())); ok || !isNone(h) {
		t.Errorf("GetHead = %+v, %v", h, ok)
	}
	logs := imageKind()
	if e, s, x, ok := codec.GetImage(nil, logs.bytes(logs.sample())); e != 0 || s != 0 || ok || !isNone(x) {
		t.Errorf("GetImage = %d, %d, %+v, %v", e, s, x, ok)
	}
	for _, b := range [][]byte{pageKind().bytes(image), make([]byte, 256), nil} {
		if p, ok := codec.GetPage(nil, b, image.Number); ok || !isNone(p) {
			t.Errorf("GetPage of %d bytes = %+v, %v", len(b), p, ok)
		}
	}
}
