package codec_test

import (
	"encoding/binary"
	"hash/crc32"
	"math/rand/v2"
	"strconv"
	"testing"

	"polder/api"
	"polder/codec"
	"polder/crc"
)

// kind is a kind of record as the chapter's table tells it; what the tests hold against the program is made of it alone.
type kind[T any] struct {
	name string
	size int
	mark string
	// put and get are the program's.
	put func(x T) ([]byte, api.Errno)
	get func(b []byte) (T, bool)
	// sample is an ordinary record, others are more; in new memory each time.
	sample func() T
	others func() []T
	// fields are all of the sample's numbers.
	fields []field[T]
	// count tells where it stands how many of a list there are (width 0: nowhere), and listed how many the sample has.
	count  place
	listed int
	// bodyAt is where a page's body stands (0: nowhere).
	bodyAt int
	body   func(x T) []byte
}

// place is where a number stands.
type place struct{ at, width int }

// field is a number of a record, with its bounds.
type field[T any] struct {
	place
	name        string
	least, most int
	get         func(x *T) int
	set         func(x *T, n int)
	// typed: a record can't be asked to have a number beyond the bounds.
	typed bool
}

// number is a field that is an int.
func number[T any](name string, at, width, least, most int, of func(x *T) *int) field[T] {
	return field[T]{
		place: place{at, width}, name: name, least: least, most: most,
		get: func(x *T) int { return *of(x) },
		set: func(x *T, n int) { *of(x) = n },
	}
}

// table is what the sectors' sums are made with.
func table() *crc.Table { return crc.New() }

// write writes a number at a place, its highest byte first; of a negative one, or of one that is too great, the lowest bytes.
func write(b []byte, at, width, n int) {
	var eight [8]byte
	binary.BigEndian.PutUint64(eight[:], uint64(n))
	copy(b[at:at+width], eight[8-width:])
}

// seal writes a sector's sum by the library's CRC32C; a body has none.
func seal(b []byte) []byte {
	if len(b) == 256 {
		binary.LittleEndian.PutUint32(b[252:], crc32.Checksum(b[:252], crc32.MakeTable(crc32.Castagnoli)))
	}
	return b
}

// text is bytes that look like no pattern; the same seed gives the same ones.
func text(seed uint32, length int) []byte {
	random := rand.New(rand.NewPCG(uint64(seed), 2))
	data := make([]byte, length)
	for i := range data {
		data[i] = byte(random.Uint32())
	}
	return data
}

// bytes are a record's, as the table tells; it has as many numbers as the sample, and may be one that may not be written.
func (k kind[T]) bytes(x T) []byte {
	b := make([]byte, k.size)
	copy(b, k.mark)
	for _, f := range k.fields {
		write(b, f.at, f.width, f.get(&x))
	}
	write(b, k.count.at, k.count.width, k.listed)
	if k.bodyAt > 0 {
		copy(b[k.bodyAt:], k.body(x))
	}
	return seal(b)
}

// named tells of each byte whether the table names it.
func (k kind[T]) named() []bool {
	l := make([]bool, k.size)
	cover := func(at, width int) {
		for i := range width {
			l[at+i] = true
		}
	}
	cover(0, len(k.mark))
	for _, f := range k.fields {
		cover(f.at, f.width)
	}
	cover(k.count.at, k.count.width)
	if k.bodyAt > 0 {
		cover(k.bodyAt, 240)
	}
	if k.size == 256 {
		cover(252, 4)
	}
	return l
}

func superKind() kind[api.Super] {
	t := table()
	k := kind[api.Super]{
		name: "superblock", size: 256, mark: "PSUP",
		put: func(s api.Super) ([]byte, api.Errno) { return codec.PutSuper(t, s) },
		get: func(b []byte) (api.Super, bool) { return codec.GetSuper(t, b) },
		sample: func() api.Super {
			return api.Super{Gen: 7, Epoch: 300, Pages: 64, Start: 1 << 33, Len: 0x0102030405, Head: 99, Seq: 1<<40 - 3}
		},
		others: func() []api.Super {
			return []api.Super{{}, {Gen: 1}, {Seq: 1 << 40}, {Gen: 1, Epoch: 2, Pages: 16, Start: 18, Len: 64, Head: 3, Seq: 4}}
		},
	}
	for i, name := range []string{"Gen", "Epoch", "Pages", "Start", "Len", "Head", "Seq"} {
		k.fields = append(k.fields, number(name, 4+8*i, 8, 0, 1<<40, func(s *api.Super) *int {
			return []*int{&s.Gen, &s.Epoch, &s.Pages, &s.Start, &s.Len, &s.Head, &s.Seq}[i]
		}))
	}
	return k
}

// headKind has a sample with so many pages.
func headKind(pages int) kind[api.Head] {
	t := table()
	k := kind[api.Head]{
		name: "head", size: 256, mark: "PLOG",
		put: func(h api.Head) ([]byte, api.Errno) { return codec.PutHead(t, h) },
		get: func(b []byte) (api.Head, bool) { return codec.GetHead(t, b) },
		sample: func() api.Head {
			h := api.Head{Epoch: 5, Seq: 1<<40 - 9, Sum: 0x8182F3F4}
			for i := range pages {
				h.Pages = append(h.Pages, (i*37+1000)%1024)
			}
			return h
		},
		others: func() []api.Head {
			return []api.Head{
				{Pages: []int{0}}, {Pages: make([]int, 40)}, {Pages: []int{1023, 0, 1023, 1023}},
				{Epoch: 1 << 40, Seq: 1 << 40, Sum: 1<<32 - 1, Pages: []int{5, 4, 3}},
			}
		},
		fields: []field[api.Head]{
			number("Epoch", 4, 8, 0, 1<<40, func(h *api.Head) *int { return &h.Epoch }),
			number("Seq", 12, 8, 0, 1<<40, func(h *api.Head) *int { return &h.Seq }),
			{
				place: place{20, 4}, name: "Sum", most: 1<<32 - 1, typed: true,
				get: func(h *api.Head) int { return int(h.Sum) },
				set: func(h *api.Head, n int) { h.Sum = uint32(n) },
			},
		},
		count:  place{24, 2},
		listed: pages,
	}
	for i := range pages {
		k.fields = append(k.fields, number("a page", 26+4*i, 4, 0, 1023, func(h *api.Head) *int { return &h.Pages[i] }))
	}
	return k
}

// pageKind asks for each page by the number that its bytes have.
func pageKind() kind[api.Image] {
	t := table()
	return kind[api.Image]{
		name: "page", size: 256, mark: "PPAG",
		bodyAt: 12, body: func(x api.Image) []byte { return x.Page.Body },
		put: func(x api.Image) ([]byte, api.Errno) { return codec.PutPage(t, x) },
		get: func(b []byte) (api.Image, bool) {
			number := 3
			if len(b) > 8 {
				number = int(binary.BigEndian.Uint32(b[5:]))
			}
			p, ok := codec.GetPage(t, b, number)
			if !ok {
				number = 0
			}
			return api.Image{Number: number, Page: p}, ok
		},
		sample: sampleImage,
		others: otherImages,
		fields: []field[api.Image]{
			number("Kind", 4, 1, 1, 5, func(x *api.Image) *int { return &x.Page.Kind }),
			number("Number", 5, 4, 0, 1023, func(x *api.Image) *int { return &x.Number }),
		},
	}
}

func sampleImage() api.Image {
	return api.Image{Number: 0x0203, Page: api.Page{Kind: api.KindLeaf, Body: text(1, 240)}}
}

func otherImages() []api.Image {
	full := make([]byte, 240)
	for i := range full {
		full[i] = 255
	}
	l := []api.Image{{Page: api.Page{Kind: api.KindData, Body: make([]byte, 240)}}, {Number: 1023, Page: api.Page{Kind: api.KindCatalogue, Body: full}}}
	for kind := api.KindCatalogue; kind <= api.KindData; kind++ {
		l = append(l, api.Image{Number: kind, Page: api.Page{Kind: kind, Body: text(uint32(kind)+30, 240)}})
	}
	return l
}

// logged is an image with what a log says of it.
type logged struct {
	Epoch, Seq int
	Image      api.Image
}

func imageKind() kind[logged] {
	t := table()
	return kind[logged]{
		name: "image", size: 256,
		bodyAt: 12, body: func(x logged) []byte { return x.Image.Page.Body },
		put: func(x logged) ([]byte, api.Errno) { return codec.PutImage(t, x.Epoch, x.Seq, x.Image) },
		get: func(b []byte) (logged, bool) {
			epoch, seq, x, ok := codec.GetImage(t, b)
			return logged{epoch, seq, x}, ok
		},
		sample: func() logged { return logged{Epoch: 0x81020304, Seq: 0xF102030405, Image: sampleImage()} },
		others: func() []logged {
			l := []logged{{Epoch: 1<<32 - 1, Seq: 1<<40 - 1, Image: sampleImage()}}
			for i, x := range otherImages() {
				l = append(l, logged{Epoch: i, Seq: 7 * i, Image: x})
			}
			return l
		},
		fields: []field[logged]{
			number("Kind", 0, 1, 1, 5, func(x *logged) *int { return &x.Image.Page.Kind }),
			number("Number", 1, 2, 0, 1023, func(x *logged) *int { return &x.Image.Number }),
			number("Epoch", 3, 4, 0, 1<<32-1, func(x *logged) *int { return &x.Epoch }),
			number("Seq", 7, 5, 0, 1<<40-1, func(x *logged) *int { return &x.Seq }),
		},
	}
}

// nodeKind has a sample with so many keys, a leaf or not.
func nodeKind(leaf bool, keys int) kind[api.Node] {
	k := kind[api.Node]{
		name: "node", size: 240,
		put: codec.PutNode,
		get: codec.GetNode,
		sample: func() api.Node {
			n := api.Node{Leaf: leaf}
			for i := range keys {
				n.Keys = append(n.Keys, 0x010203+i)
				n.Vals = append(n.Vals, 1000-i)
			}
			return n
		},
		others: func() []api.Node {
			return []api.Node{
				{Leaf: true}, {Keys: []int{}, Vals: []int{}}, {Keys: []int{1<<20 - 1}, Vals: []int{1023}},
				{Leaf: true, Keys: []int{9, 3, 3, 0}, Vals: []int{0, 5, 5, 0}}, // what keys and vals mean is another layer's
			}
		},
		fields: []field[api.Node]{{
			place: place{0, 1}, name: "Leaf", most: 1, typed: true,
			get: func(n *api.Node) int { return map[bool]int{true: 1}[n.Leaf] },
			set: func(n *api.Node, to int) { n.Leaf = to == 1 },
		}},
		count:  place{1, 1},
		listed: keys,
	}
	for i := range keys {
		k.fields = append(k.fields,
			number("a key", 2+6*i, 4, 0, 1<<20-1, func(n *api.Node) *int { return &n.Keys[i] }),
			number("a val", 6+6*i, 2, 0, 1023, func(n *api.Node) *int { return &n.Vals[i] }))
	}
	return k
}

func countsKind() kind[[]int] {
	k := kind[[]int]{
		name: "counts", size: 240,
		put: codec.PutCounts,
		get: codec.GetCounts,
		sample: func() []int {
			l := make([]int, 120)
			for i := range l {
				l[i] = (i*91 + 258) % 1001
			}
			return l
		},
		others: func() [][]int { return [][]int{make([]int, 120)} },
	}
	for i := range 120 {
		k.fields = append(k.fields, number("a count", 2*i, 2, 0, 1000, func(l *[]int) *int { return &(*l)[i] }))
	}
	return k
}

// catalogueKind has a sample with so many numbers in its stack.
func catalogueKind(stack int) kind[api.Catalogue] {
	k := kind[api.Catalogue]{
		name: "catalogue", size: 240,
		put: codec.PutCatalogue,
		get: codec.GetCatalogue,
		sample: func() api.Catalogue {
			c := api.Catalogue{Next: 0x01020304}
			for i := range stack {
				c.Stack = append(c.Stack, 1000-i)
			}
			for i := range 8 {
				c.Volumes = append(c.Volumes, api.Volume{ID: 0x020304 + i, State: i % 3, Size: 0x030405 + i, Quota: 0x040506 + i, Root: 0x0102 + i, Mapped: 0x050607 + i})
			}
			return c
		},
		others: func() []api.Catalogue {
			return []api.Catalogue{{Volumes: make([]api.Volume, 8)}, {Next: 1 << 30, Volumes: make([]api.Volume, 8), Stack: []int{}}, {Next: 1, Volumes: make([]api.Volume, 8), Stack: []int{0, 1023, 7, 7}}}
		},
		fields: []field[api.Catalogue]{number("Next", 0, 4, 0, 1<<30, func(c *api.Catalogue) *int { return &c.Next })},
		count:  place{4, 1},
		listed: stack,
	}
	for i := range stack {
		k.fields = append(k.fields, number("a number of the stack", 5+2*i, 2, 0, 1023, func(c *api.Catalogue) *int { return &c.Stack[i] }))
	}
	for i := range 8 {
		at := 21 + 19*i
		k.fields = append(k.fields,
			number("an ID", at, 4, 0, 1<<30, func(c *api.Catalogue) *int { return &c.Volumes[i].ID }),
			number("a State", at+4, 1, 0, 2, func(c *api.Catalogue) *int { return &c.Volumes[i].State }),
			number("a Size", at+5, 4, 0, 1<<20, func(c *api.Catalogue) *int { return &c.Volumes[i].Size }),
			number("a Quota", at+9, 4, 0, 1<<20, func(c *api.Catalogue) *int { return &c.Volumes[i].Quota }),
			number("a Root", at+13, 2, 0, 1023, func(c *api.Catalogue) *int { return &c.Volumes[i].Root }),
			number("a Mapped", at+15, 4, 0, 1<<20, func(c *api.Catalogue) *int { return &c.Volumes[i].Mapped }))
	}
	return k
}

// asked is a kind, of whatever record.
type asked interface {
	title() string
	written(t *testing.T)
	fieldsAtEdges(t *testing.T)
	anyValues(t *testing.T)
	fieldsBeyond(t *testing.T)
	none(t *testing.T, what string, b []byte)
	sampleBytes() []byte
	unnamed(t *testing.T)
	marked(t *testing.T)
	lengths(t *testing.T)
	tampered(t *testing.T)
	changed(t *testing.T)
	handedIn(t *testing.T)
	answered(t *testing.T)
}

func (k kind[T]) sampleBytes() []byte { return k.bytes(k.sample()) }

func (k kind[T]) title() string { return k.name + " of " + strconv.Itoa(k.listed) }

// sectors are the kinds that have a sum, with short and long lists.
func sectors() []asked {
	return []asked{superKind(), headKind(1), headKind(3), headKind(40), pageKind(), imageKind()}
}

// bodies are the others.
func bodies() []asked {
	return []asked{
		nodeKind(false, 0), nodeKind(true, 1), nodeKind(true, 3), nodeKind(false, 8), countsKind(),
		catalogueKind(0), catalogueKind(3), catalogueKind(8),
	}
}

// each asks something of some kinds.
func each(t *testing.T, kinds []asked, ask func(asked, *testing.T)) {
	t.Helper()
	for _, k := range kinds {
		t.Run(k.title(), func(t *testing.T) { ask(k, t) })
	}
}
