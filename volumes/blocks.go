package volumes

import (
	"polder/api"
	"polder/thin"
)

// Read is blocks of a volume, one behind the other.
func (v *Volumes) Read(id, at, count int) ([]byte, api.Errno) {
	place, e := v.span(id, at, count)
	if e != api.OK {
		return nil, e
	}
	var data []byte
	for i := range count {
		block, e := thin.Read(v.p, v.c.Volumes[place], at+i)
		if e != api.OK {
			return nil, e
		}
		data = append(data, block...)
	}
	return data, api.OK
}

// Write writes blocks of a volume: how many were done.
func (v *Volumes) Write(id, at int, data []byte, sync bool) (int, api.Errno) {
	count := blocksOf(data)
	place, e := v.span(id, at, count)
	if e != api.OK {
		return 0, e
	}
	done, e := v.each(place, count, func(x api.Volume, i int) (api.Volume, api.Errno) {
		return thin.Write(v.p, x, at+i, data[i*api.BlockSize:(i+1)*api.BlockSize])
	})
	if e == api.OK && sync {
		e = v.Sync()
	}
	return done, e
}

// Unmap takes blocks of a volume away: how many were done.
func (v *Volumes) Unmap(id, at, count int) (int, api.Errno) {
	place, e := v.span(id, at, count)
	if e != api.OK {
		return 0, e
	}
	return v.each(place, count, func(x api.Volume, i int) (api.Volume, api.Errno) {
		return thin.Unmap(v.p, x, at+i)
	})
}

// blocksOf is how many blocks these bytes are; 0, where they are no whole ones.
func blocksOf(data []byte) int {
	if len(data)%api.BlockSize != 0 {
		return 0
	}
	return len(data) / api.BlockSize
}

// span is the place of a live volume that has all these blocks.
func (v *Volumes) span(id, at, count int) (int, api.Errno) {
	place, e := v.find(id)
	if e != api.OK {
		return 0, e
	}
	if count < 1 || count > api.MaxSpan {
		return 0, api.ErrArg
	}
	// The sum of at and count might run over.
	if at < 0 || at > v.c.Volumes[place].Size-count {
		return 0, api.ErrBlock
	}
	return place, api.OK
}

// each has a closure change blocks of a volume, one behind the other, each in a transaction of its own: how many were done.
func (v *Volumes) each(place, count int, do func(x api.Volume, i int) (api.Volume, api.Errno)) (int, api.Errno) {
	for i := range count {
		e := v.change(func(c *api.Catalogue) api.Errno {
			x, e := do(c.Volumes[place], i)
			c.Volumes[place] = x
			return e
		})
		if e != api.OK {
			return i, e
		}
	}
	return count, api.OK
}
