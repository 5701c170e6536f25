package thin

import (
	"slices"

	"polder/api"
	"polder/pool"
)

// check tells whether a block may be asked for.
func check(p *pool.Pool, v api.Volume, block int) api.Errno {
	if p == nil || !mayBe(v) {
		return api.ErrArg
	}
	if !within(block, 0, v.Size-1) {
		return api.ErrBlock
	}
	return api.OK
}

// checkChange tells whether a block may be changed.
func checkChange(p *pool.Pool, v api.Volume, block int) api.Errno {
	if e := check(p, v, block); e != api.OK {
		return e
	}
	if !p.Under() {
		return api.ErrIdle
	}
	return api.OK
}

// mayBe tells whether there may be such a volume. A dying one has blocks, too, till they are given back.
func mayBe(v api.Volume) bool {
	return within(v.ID, 1, api.MaxID) &&
		within(v.State, api.VolumeLive, api.VolumeDying) &&
		within(v.Size, 1, api.MaxBlocks) &&
		within(v.Quota, 0, api.MaxBlocks) &&
		within(v.Root, 0, api.MaxPages-1) &&
		within(v.Mapped, 0, api.MaxPages)
}

// within tells whether a number is one of these.
func within(n, least, most int) bool { return n >= least && n <= most }

// pack is the page of a block.
func pack(data []byte) api.Page {
	body := make([]byte, api.BodySize)
	copy(body, data)
	return api.Page{Kind: api.KindData, Body: body}
}

// unpack is the block of a page.
func unpack(x api.Page) ([]byte, api.Errno) {
	if x.Kind != api.KindData || slices.ContainsFunc(x.Body[api.BlockSize:], isWritten) {
		return nil, api.ErrImage
	}
	block := make([]byte, api.BlockSize)
	copy(block, x.Body)
	return block, api.OK
}

// isWritten tells whether a byte is another one than behind a block.
func isWritten(b byte) bool { return b != 0 }
