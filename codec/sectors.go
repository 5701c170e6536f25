package codec

import (
	"polder/api"
	"polder/crc"
)

// The marks of sectors. (An image in a log has none: its record's head has.)
const (
	superMark = "PSUP"
	headMark  = "PLOG"
	pageMark  = "PPAG"
)

// gap is how many bytes of a page stand empty ahead of its body, so that this begins where it does in a log.
const gap = 3

// What an image in a log has room for: its record's Epoch in 4 bytes, its Seq in 5.
const (
	mostEpoch = 1<<32 - 1
	mostSeq   = 1<<40 - 1
)

// PutSuper writes a superblock as a sector.
func PutSuper(t *crc.Table, s api.Super) ([]byte, api.Errno) {
	numbers := [...]int{s.Gen, s.Epoch, s.Pages, s.Start, s.Len, s.Head, s.Seq}
	if t == nil || !allWithin(numbers[:], api.MaxNumber) {
		return nil, api.ErrArg
	}
	var sector [api.SectorSize]byte
	c := cursor(sector[:])
	c.mark(superMark)
	for _, n := range numbers {
		c.write(8, n)
	}
	return seal(t, &sector), api.OK
}

// GetSuper reads one.
func GetSuper(t *crc.Table, sector []byte) (api.Super, bool) {
	c, ok := openSector(t, sector)
	if !ok {
		return api.Super{}, false
	}
	c.take(len(superMark))
	var s api.Super
	s.Gen = c.read(8)
	s.Epoch = c.read(8)
	s.Pages = c.read(8)
	s.Start = c.read(8)
	s.Len = c.read(8)
	s.Head = c.read(8)
	s.Seq = c.read(8)
	written, e := PutSuper(t, s)
	if !comesBack(sector, written, e) {
		return api.Super{}, false
	}
	return s, true
}

// PutHead writes a record's head as a sector.
func PutHead(t *crc.Table, h api.Head) ([]byte, api.Errno) {
	if t == nil || !headMayBe(h) {
		return nil, api.ErrArg
	}
	var sector [api.SectorSize]byte
	c := cursor(sector[:])
	c.mark(headMark)
	c.write(8, h.Epoch)
	c.write(8, h.Seq)
	c.write(4, int(h.Sum))
	c.write(2, len(h.Pages))
	for _, p := range h.Pages {
		c.write(4, p)
	}
	return seal(t, &sector), api.OK
}

func headMayBe(h api.Head) bool {
	return within(h.Epoch, api.MaxNumber) && within(h.Seq, api.MaxNumber) &&
		len(h.Pages) >= 1 && len(h.Pages) <= api.MaxImages && allWithin(h.Pages, api.MaxPages-1)
}

// GetHead reads one.
func GetHead(t *crc.Table, sector []byte) (api.Head, bool) {
	c, ok := openSector(t, sector)
	if !ok {
		return api.Head{}, false
	}
	c.take(len(headMark))
	var h api.Head
	h.Epoch = c.read(8)
	h.Seq = c.read(8)
	h.Sum = uint32(c.read(4))
	count := c.read(2)
	if count > api.MaxImages { // so many might reach beyond the sector
		return api.Head{}, false
	}
	h.Pages = c.readAll(count, 4)
	written, e := PutHead(t, h)
	if !comesBack(sector, written, e) {
		return api.Head{}, false
	}
	return h, true
}

// imageMayBe tells whether a page may be written under its number.
func imageMayBe(x api.Image) bool {
	return x.Page.Kind >= api.KindCatalogue && x.Page.Kind <= api.KindData &&
		within(x.Number, api.MaxPages-1) && len(x.Page.Body) == api.BodySize
}

// PutPage writes a page as a sector.
func PutPage(t *crc.Table, x api.Image) ([]byte, api.Errno) {
	if t == nil || !imageMayBe(x) {
		return nil, api.ErrArg
	}
	var sector [api.SectorSize]byte
	c := cursor(sector[:])
	c.mark(pageMark)
	c.write(1, x.Page.Kind)
	c.write(4, x.Number)
	c.take(gap)
	copy(c.take(api.BodySize), x.Page.Body)
	return seal(t, &sector), api.OK
}

// GetPage reads the page of a number. One that was never written has no number on the disk, so it is that of any.
func GetPage(t *crc.Table, sector []byte, number int) (api.Page, bool) {
	c, ok := openSector(t, sector)
	if !ok {
		return api.Page{}, false
	}
	if neverWritten(c) {
		return api.Page{Kind: api.KindNone}, true
	}
	c.take(len(pageMark))
	var x api.Image
	x.Page.Kind = c.read(1)
	x.Number = c.read(4)
	c.take(gap)
	x.Page.Body = c.take(api.BodySize)
	written, e := PutPage(t, x)
	if x.Number != number || !comesBack(sector, written, e) {
		return api.Page{}, false
	}
	return x.Page, true
}

// neverWritten tells whether all bytes are 0.
func neverWritten(sector []byte) bool {
	for _, b := range sector {
		if b != 0 {
			return false
		}
	}
	return true
}

// PutImage writes a page of a record as a sector.
func PutImage(t *crc.Table, epoch, seq int, x api.Image) ([]byte, api.Errno) {
	if t == nil || !imageMayBe(x) || !within(epoch, mostEpoch) || !within(seq, mostSeq) {
		return nil, api.ErrArg
	}
	var sector [api.SectorSize]byte
	c := cursor(sector[:])
	c.write(1, x.Page.Kind)
	c.write(2, x.Number)
	c.write(4, epoch)
	c.write(5, seq)
	copy(c.take(api.BodySize), x.Page.Body)
	return seal(t, &sector), api.OK
}

// GetImage reads one.
func GetImage(t *crc.Table, sector []byte) (int, int, api.Image, bool) {
	c, ok := openSector(t, sector)
	if !ok {
		return 0, 0, api.Image{}, false
	}
	var x api.Image
	x.Page.Kind = c.read(1)
	x.Number = c.read(2)
	epoch := c.read(4)
	seq := c.read(5)
	x.Page.Body = c.take(api.BodySize)
	written, e := PutImage(t, epoch, seq, x)
	if !comesBack(sector, written, e) {
		return 0, 0, api.Image{}, false
	}
	return epoch, seq, x, true
}
