package volumes

import (
	"polder/api"
	"polder/ranges"
)

// Create makes a volume in which nothing is mapped: its ID.
func (v *Volumes) Create(size, quota int) (int, api.Errno) {
	if !isSize(size) || quota < 0 || quota > api.MaxBlocks {
		return 0, api.ErrArg
	}
	return v.add(func() (api.Volume, api.Errno) {
		return api.Volume{Size: size, Quota: quota}, api.OK
	})
}

// Snapshot makes a volume that begins with another one's blocks: its ID.
func (v *Volumes) Snapshot(id int) (int, api.Errno) {
	place, e := v.find(id)
	if e != api.OK {
		return 0, e
	}
	return v.add(func() (api.Volume, api.Errno) {
		x := v.c.Volumes[place]
		root, e := ranges.Clone(v.p, x.Root)
		x.Root = root
		return x, e
	})
}

// Delete takes a volume away. What it has is given back later on, step by step, as it may be more than a transaction has room for.
func (v *Volumes) Delete(id int) api.Errno {
	place, e := v.find(id)
	if e != api.OK {
		return e
	}
	return v.changeAndSync(func(c *api.Catalogue) api.Errno {
		c.Volumes[place].State = api.VolumeDying
		return api.OK
	})
}

// Resize gives a volume another size.
func (v *Volumes) Resize(id, size int) api.Errno {
	place, e := v.find(id)
	if e != api.OK {
		return e
	}
	if !isSize(size) {
		return api.ErrArg
	}
	beyond, e := ranges.Scan(v.p, v.c.Volumes[place].Root, size, api.MaxBlocks, 1)
	if e != api.OK {
		return e
	}
	if len(beyond) > 0 {
		return api.ErrInUse
	}
	return v.changeAndSync(func(c *api.Catalogue) api.Errno {
		c.Volumes[place].Size = size
		return api.OK
	})
}

// isSize tells whether a volume may have so many blocks.
func isSize(size int) bool { return size >= 1 && size <= api.MaxBlocks }

// find is the place of the live volume that has this ID.
func (v *Volumes) find(id int) (int, api.Errno) {
	for i := range api.MaxVolumes {
		if x := v.c.Volumes[i]; x.State == api.VolumeLive && x.ID == id {
			return i, api.OK
		}
	}
	return 0, api.ErrVolume
}

// vacant is the first free place, for a volume that gets the next ID.
func (v *Volumes) vacant() (int, api.Errno) {
	for i := range api.MaxVolumes {
		if v.c.Volumes[i].State != api.VolumeNone {
			continue
		}
		if v.c.Next == api.MaxID {
			return 0, api.ErrFull
		}
		return i, api.OK
	}
	return 0, api.ErrVolumes
}

// add makes one more volume, which begins as a closure tells within the transaction: its ID.
func (v *Volumes) add(begin func() (api.Volume, api.Errno)) (int, api.Errno) {
	place, e := v.vacant()
	if e != api.OK {
		return 0, e
	}
	id := v.c.Next
	e = v.changeAndSync(func(c *api.Catalogue) api.Errno {
		x, e := begin()
		x.ID, x.State = id, api.VolumeLive
		c.Volumes[place] = x
		c.Next++
		return e
	})
	if e != api.OK {
		return 0, e
	}
	return id, api.OK
}

// changeAndSync has a change be durable, once it is done: a call of the catalogue that was answered is not lost.
func (v *Volumes) changeAndSync(do func(c *api.Catalogue) api.Errno) api.Errno {
	if e := v.change(do); e != api.OK {
		return e
	}
	return v.Sync()
}
