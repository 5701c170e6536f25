package codec_test

import (
	"bytes"
	"encoding/hex"
	"math"
	"strconv"
	"testing"

	"polder/api"
	"polder/codec"
)

// begins holds a record's first bytes against those that are written here out of the chapter's table.
func begins(t *testing.T, what string, b []byte, e api.Errno, want string) {
	t.Helper()
	first, err := hex.DecodeString(want)
	if err != nil {
		t.Fatal(err)
	}
	if e != api.OK || !bytes.HasPrefix(b, first) {
		t.Errorf("%s = %x, %v, does not begin with %x", what, b, e, first)
	}
}

// refuses holds an answer against what is told of a record that may not be written.
func refuses(t *testing.T, what string, b []byte, e api.Errno) {
	t.Helper()
	if len(b) != 0 || e != api.ErrArg {
		t.Errorf("%s = %d bytes, %v, not ErrArg", what, len(b), e)
	}
}

// volumes are so many, that are none.
func volumes(count int) []api.Volume { return make([]api.Volume, count) }

func TestExamples(t *testing.T) {
	sums := table()
	super := api.Super{Gen: 1, Epoch: 2, Pages: 16, Start: 18, Len: 64, Head: 3, Seq: 4}
	b, e := codec.PutSuper(sums, super)
	begins(t, "PutSuper", b, e, "50535550"+"0000000000000001"+"0000000000000002"+"0000000000000010"+"0000000000000012"+
		"0000000000000040"+"0000000000000003"+"0000000000000004"+"00000000")
	b, e = codec.PutSuper(sums, api.Super{Gen: -1})
	refuses(t, "PutSuper of Gen -1", b, e)
	b, e = codec.PutHead(sums, api.Head{Epoch: 1, Seq: 1})
	refuses(t, "PutHead without Pages", b, e)
	b, e = codec.PutPage(sums, api.Image{Number: 1, Page: api.Page{Kind: api.KindNone, Body: make([]byte, 240)}})
	refuses(t, "PutPage of KindNone", b, e)
	b, e = codec.PutPage(sums, api.Image{Number: 1})
	refuses(t, "PutPage of a page that was never written", b, e)
	b, e = codec.PutCounts(make([]int, 119))
	refuses(t, "PutCounts of 119", b, e)
	b, e = codec.PutNode(api.Node{Leaf: true, Keys: []int{258}, Vals: []int{7}})
	begins(t, "PutNode", b, e, "01"+"01"+"00000102"+"0007"+"0000")
	if p, ok := codec.GetPage(sums, make([]byte, 256), 5); !ok || p.Kind != api.KindNone || len(p.Body) != 0 {
		t.Errorf("GetPage of noughts = %+v, %v", p, ok)
	}
	if s, ok := codec.GetSuper(sums, make([]byte, 256)); ok || s != (api.Super{}) {
		t.Errorf("GetSuper of noughts = %+v, %v", s, ok)
	}
	b, _ = codec.PutPage(sums, api.Image{Number: 5, Page: api.Page{Kind: api.KindData, Body: text(2, 240)}})
	if p, ok := codec.GetPage(sums, b, 6); ok || !isNone(p) {
		t.Errorf("GetPage of another number = %+v, %v", p, ok)
	}
	if n, ok := codec.GetNode(make([]byte, 240)); !ok || n.Leaf || len(n.Keys) != 0 || len(n.Vals) != 0 {
		t.Errorf("GetNode of noughts = %+v, %v", n, ok)
	}
	if n, ok := codec.GetNode(make([]byte, 239)); ok || !isNone(n) {
		t.Errorf("GetNode of 239 bytes = %+v, %v", n, ok)
	}
}

// TestLaidOut writes the other records' bytes out.
func TestLaidOut(t *testing.T) {
	sums := table()
	b, e := codec.PutHead(sums, api.Head{Epoch: 0x0102, Seq: 0x030405, Sum: 0xF1F2F3F4, Pages: []int{0x03FF, 0, 0x0102}})
	begins(t, "PutHead", b, e, "504c4f47"+"0000000000000102"+"0000000000030405"+"f1f2f3f4"+"0003"+"000003ff"+"00000000"+"00000102"+"00000000")
	body := text(3, 240)
	b, e = codec.PutPage(sums, api.Image{Number: 0x0102, Page: api.Page{Kind: api.KindInner, Body: body}})
	begins(t, "PutPage", b, e, "50504147"+"03"+"00000102"+"000000"+hex.EncodeToString(body))
	b, e = codec.PutImage(sums, 0xA1A2A3A4, 0xB1B2B3B4B5, api.Image{Number: 0x0102, Page: api.Page{Kind: api.KindCounts, Body: body}})
	begins(t, "PutImage", b, e, "02"+"0102"+"a1a2a3a4"+"b1b2b3b4b5"+hex.EncodeToString(body))
	b, e = codec.PutNode(api.Node{Keys: []int{0x0F0102, 3}, Vals: []int{0x0304, 1}})
	begins(t, "PutNode", b, e, "00"+"02"+"000f0102"+"0304"+"00000003"+"0001"+"0000")
	counts := make([]int, 120)
	counts[0], counts[1], counts[119] = 1000, 1, 258
	b, e = codec.PutCounts(counts)
	begins(t, "PutCounts", b, e, "03e8"+"0001"+hex.EncodeToString(make([]byte, 2*117))+"0102")
	c := api.Catalogue{Next: 0x01020304, Stack: []int{0x0102, 3}, Volumes: volumes(8)}
	c.Volumes[0] = api.Volume{ID: 0x11121314, State: api.VolumeDying, Size: 0x010203, Quota: 0x040506, Root: 0x0203, Mapped: 0x070809}
	c.Volumes[7] = api.Volume{ID: 1, State: api.VolumeLive, Size: 2, Quota: 3, Root: 4, Mapped: 5}
	b, e = codec.PutCatalogue(c)
	begins(t, "PutCatalogue", b, e, "01020304"+"02"+"0102"+"0003"+hex.EncodeToString(make([]byte, 12))+
		"11121314"+"02"+"00010203"+"00040506"+"0203"+"00070809"+hex.EncodeToString(make([]byte, 6*19))+
		"00000001"+"01"+"00000002"+"00000003"+"0004"+"00000005"+hex.EncodeToString(make([]byte, 67)))
}

// TestSum: the sum is that of the 252 bytes ahead of it, its lowest byte first.
func TestSum(t *testing.T) {
	sums := table()
	for _, k := range sectors() {
		b := k.sampleBytes()
		sum := sums.Sum(b[:252])
		if want := []byte{byte(sum), byte(sum >> 8), byte(sum >> 16), byte(sum >> 24)}; !bytes.Equal(b[252:], want) {
			t.Fatalf("%s: the tests' own sum is %x, not %x", k.title(), b[252:], want)
		}
		for i := range 4 {
			for n := range 256 {
				other := bytes.Clone(b)
				if other[252+i] = byte(n); n != int(b[252+i]) {
					k.none(t, "byte "+strconv.Itoa(i)+" of the sum is "+strconv.Itoa(n), other)
				}
			}
		}
		high := append(bytes.Clone(b[:252]), byte(sum>>24), byte(sum>>16), byte(sum>>8), byte(sum))
		k.none(t, "the sum's highest byte is first", high)
		k.none(t, "without a sum", append(bytes.Clone(b[:252]), 0, 0, 0, 0))
	}
}

// TestAnothers: a sector of one kind is none of another, and noughts are a page's alone.
func TestAnothers(t *testing.T) {
	kinds := []asked{superKind(), headKind(3), imageKind(), pageKind()}
	for i, k := range kinds {
		for j, other := range kinds {
			if j != i {
				k.none(t, other.title()+" as "+k.title(), other.sampleBytes())
			}
		}
		k.none(t, "256 bytes 255", bytes.Repeat([]byte{255}, 256))
		if i < 3 {
			k.none(t, "256 bytes 0", make([]byte, 256))
		}
	}
}

// numbers are those that pages may be asked for by.
func numbers() []int {
	return []int{0, 1, 2, 6, 255, 256, 1022, 1023, 1024, 65536, 1 << 32, math.MaxInt, -1, -1023, math.MinInt}
}

// TestNeverWritten: 256 bytes 0 are a page of any number; those of another count, or with another byte, are not.
func TestNeverWritten(t *testing.T) {
	sums := table()
	for _, number := range numbers() {
		if p, ok := codec.GetPage(sums, make([]byte, 256), number); !ok || p.Kind != api.KindNone || len(p.Body) != 0 {
			t.Errorf("GetPage(noughts, %d) = %+v, %v", number, p, ok)
		}
		for _, count := range []int{0, 1, 240, 252, 255, 257, 512} {
			if p, ok := codec.GetPage(sums, make([]byte, count), number); ok || !isNone(p) {
				t.Errorf("GetPage(%d noughts, %d) = %+v, %v", count, number, p, ok)
			}
		}
	}
	for first := range 2048 {
		for width := 1; width <= min(32, 2048-first); width++ {
			b := turned(make([]byte, 256), first, 1|1<<(width-1))
			if p, ok := codec.GetPage(sums, b, 0); ok || !isNone(p) {
				t.Fatalf("the bits %d and %d are 1: %+v, %v", first, first+width-1, p, ok)
			}
		}
	}
	for i := range 252 {
		b := make([]byte, 256)
		b[i] = 1
		if p, ok := codec.GetPage(sums, seal(b), 0); ok || !isNone(p) {
			t.Errorf("the byte %d is 1: %+v, %v", i, p, ok)
		}
	}
	if p, ok := codec.GetPage(sums, seal(make([]byte, 256)), 0); ok || !isNone(p) {
		t.Errorf("noughts with their sum: %+v, %v", p, ok)
	}
}

// TestPageOfNumber: a page is found by its own number alone.
func TestPageOfNumber(t *testing.T) {
	sums := table()
	for _, own := range []int{0, 1, 5, 256, 1023} {
		x := api.Image{Number: own, Page: api.Page{Kind: api.KindCounts, Body: text(uint32(own), 240)}}
		b, _ := codec.PutPage(sums, x)
		if p, ok := codec.GetPage(sums, b, own); !ok || !same(p, x.Page) {
			t.Errorf("GetPage of %d = %+v, %v", own, p, ok)
		}
		for _, number := range append(numbers(), own-1, own+1, own+1024, own+1<<32, -own) {
			if p, ok := codec.GetPage(sums, b, number); number != own && (ok || !isNone(p)) {
				t.Errorf("GetPage of %d, asked for %d = %+v, %v", own, number, p, ok)
			}
		}
	}
	for _, beyond := range []int{1024, 65536, 1<<32 - 1} { // asked for by what its bytes say
		b := pageKind().sampleBytes()
		write(b, 5, 4, beyond)
		if p, ok := codec.GetPage(sums, seal(b), beyond); ok || !isNone(p) {
			t.Errorf("GetPage of %d = %+v, %v", beyond, p, ok)
		}
	}
}

// TestBodies: a page's body has 240 bytes.
func TestBodies(t *testing.T) {
	sums := table()
	for _, count := range []int{0, 1, 239, 241, 252, 256, 100000} {
		x := api.Image{Number: 1, Page: api.Page{Kind: api.KindData, Body: make([]byte, count, count+240)}}
		b, e := codec.PutPage(sums, x)
		refuses(t, "PutPage of a body of "+strconv.Itoa(count), b, e)
		b, e = codec.PutImage(sums, 1, 1, x)
		refuses(t, "PutImage of a body of "+strconv.Itoa(count), b, e)
	}
}

// TestHeadsPages: a head has 1 to 40 pages, in any order, some more than once.
func TestHeadsPages(t *testing.T) {
	sums := table()
	for count := 1; count <= 40; count++ {
		k := headKind(count)
		k.some(t, strconv.Itoa(count)+" pages", k.sample(), k.sampleBytes())
	}
	for _, count := range []int{0, 41, 42, 56, 57, 256 + 3, 65536 + 3} {
		b, e := codec.PutHead(sums, api.Head{Epoch: 1, Seq: 1, Pages: make([]int, count)})
		refuses(t, "PutHead of "+strconv.Itoa(count)+" pages", b, e)
	}
	b, e := codec.PutHead(sums, api.Head{Pages: []int{}})
	refuses(t, "PutHead of an empty list", b, e)
}

// TestListed: how many numbers of a list there are is told by a number ahead of them: no more than there is room for, and behind them there is 0.
func TestListed(t *testing.T) {
	head := headKind(3)
	head.counted(t, 65535, 40, func(h *api.Head) { h.Pages = append(h.Pages, 0) })
	nodeKind(true, 3).counted(t, 255, 8, func(n *api.Node) { n.Keys, n.Vals = append(n.Keys, 0), append(n.Vals, 0) })
	nodeKind(false, 0).counted(t, 255, 8, func(n *api.Node) { n.Keys, n.Vals = append(n.Keys, 0), append(n.Vals, 0) })
	catalogueKind(3).counted(t, 255, 8, func(c *api.Catalogue) { c.Stack = append(c.Stack, 0) })
	catalogueKind(0).counted(t, 255, 8, func(c *api.Catalogue) { c.Stack = append(c.Stack, 0) })
	b := make([]byte, 256)
	copy(b, "PLOG")
	head.none(t, "a head without pages", seal(b))
}

// counted asks all numbers that may stand there, of the sample's bytes: from the sample's own on, noughts are its list's next numbers.
func (k kind[T]) counted(t *testing.T, greatest, most int, grow func(*T)) {
	t.Helper()
	x := k.sample()
	for n := range greatest + 1 {
		b := k.sampleBytes()
		write(b, k.count.at, k.count.width, n)
		what := k.title() + " with " + strconv.Itoa(n)
		if n < k.listed || n > most {
			k.none(t, what, seal(b))
			continue
		}
		k.some(t, what, x, seal(b))
		grow(&x)
	}
}

// TestNodesLists: a node has as many keys as vals, at most eight.
func TestNodesLists(t *testing.T) {
	for keys := range 12 {
		for vals := range 12 {
			n := api.Node{Leaf: keys%2 == 0, Keys: make([]int, keys), Vals: make([]int, vals)}
			b, e := codec.PutNode(n)
			if keys != vals || keys > 8 {
				refuses(t, strconv.Itoa(keys)+" keys, "+strconv.Itoa(vals)+" vals", b, e)
			} else if e != api.OK || len(b) != 240 || int(b[1]) != keys {
				t.Errorf("%d keys: %v, %v", keys, b, e)
			}
		}
	}
	b, e := codec.PutNode(api.Node{Keys: make([]int, 256+3), Vals: make([]int, 256+3)})
	refuses(t, "259 keys", b, e)
	for n := 2; n < 256; n++ {
		body := nodeKind(true, 3).sampleBytes()
		body[0] = byte(n)
		nodeKind(true, 3).none(t, "the first byte is "+strconv.Itoa(n), body)
	}
}

// TestCountsLists: there are 120 counts.
func TestCountsLists(t *testing.T) {
	for _, count := range []int{0, 1, 119, 121, 240, 1000} {
		b, e := codec.PutCounts(make([]int, count, count+120))
		refuses(t, strconv.Itoa(count)+" counts", b, e)
	}
	b, e := codec.PutCounts(nil)
	refuses(t, "no counts", b, e)
	if l, ok := codec.GetCounts(make([]byte, 240)); !ok || len(l) != 120 || l[0] != 0 || l[119] != 0 {
		t.Errorf("GetCounts of noughts = %v, %v", l, ok)
	}
}

// TestCataloguesLists: a catalogue has 8 volumes, and at most 8 numbers in its stack.
func TestCataloguesLists(t *testing.T) {
	for _, count := range []int{0, 1, 7, 9, 16, 100} {
		b, e := codec.PutCatalogue(api.Catalogue{Next: 1, Volumes: volumes(count)})
		refuses(t, strconv.Itoa(count)+" volumes", b, e)
	}
	b, e := codec.PutCatalogue(api.Catalogue{})
	refuses(t, "the zero catalogue", b, e)
	for count := range 20 {
		b, e := codec.PutCatalogue(api.Catalogue{Volumes: volumes(8), Stack: make([]int, count)})
		if count > 8 {
			refuses(t, strconv.Itoa(count)+" numbers in the stack", b, e)
		} else if e != api.OK || len(b) != 240 || int(b[4]) != count {
			t.Errorf("%d numbers in the stack: %v, %v", count, b, e)
		}
	}
	b, e = codec.PutCatalogue(api.Catalogue{Volumes: volumes(8), Stack: make([]int, 256+3)})
	refuses(t, "259 numbers in the stack", b, e)
	if c, ok := codec.GetCatalogue(make([]byte, 240)); !ok || !same(c, api.Catalogue{Volumes: volumes(8)}) {
		t.Errorf("GetCatalogue of noughts = %+v, %v", c, ok)
	}
}

// TestNothingHandedIn: no bytes are no record.
func TestNothingHandedIn(t *testing.T) {
	sums := table()
	for _, b := range [][]byte{nil, {}, make([]byte, 0, 256)} {
		for _, k := range append(sectors(), bodies()...) {
			k.none(t, k.title(), b)
		}
		if p, ok := codec.GetPage(sums, b, 0); ok || !isNone(p) {
			t.Errorf("GetPage = %+v, %v", p, ok)
		}
	}
}
