package codec

import "polder/api"

// PutNode writes a node as a body.
func PutNode(n api.Node) ([]byte, api.Errno) {
	if !nodeMayBe(n) {
		return nil, api.ErrArg
	}
	var body [api.BodySize]byte
	c := cursor(body[:])
	leaf := 0
	if n.Leaf {
		leaf = 1
	}
	c.write(1, leaf)
	c.write(1, len(n.Keys))
	for i, key := range n.Keys {
		c.write(4, key)
		c.write(2, n.Vals[i])
	}
	return body[:], api.OK
}

func nodeMayBe(n api.Node) bool {
	return len(n.Keys) == len(n.Vals) && len(n.Keys) <= api.MaxKeys &&
		allWithin(n.Keys, api.MaxBlocks-1) && allWithin(n.Vals, api.MaxPages-1)
}

// GetNode reads one.
func GetNode(body []byte) (api.Node, bool) {
	c, ok := openBody(body)
	if !ok {
		return api.Node{}, false
	}
	n := api.Node{Leaf: c.read(1) == 1}
	count := c.read(1)
	if count > api.MaxKeys { // so many might reach beyond the body
		return api.Node{}, false
	}
	for range count {
		n.Keys = append(n.Keys, c.read(4))
		n.Vals = append(n.Vals, c.read(2))
	}
	written, e := PutNode(n)
	if !comesBack(body, written, e) {
		return api.Node{}, false
	}
	return n, true
}

// PutCounts writes counts as a body.
func PutCounts(l []int) ([]byte, api.Errno) {
	if len(l) != api.PerCounts || !allWithin(l, api.MaxCount) {
		return nil, api.ErrArg
	}
	var body [api.BodySize]byte
	c := cursor(body[:])
	for _, n := range l {
		c.write(2, n)
	}
	return body[:], api.OK
}

// GetCounts reads them.
func GetCounts(body []byte) ([]int, bool) {
	c, ok := openBody(body)
	if !ok {
		return nil, false
	}
	l := c.readAll(api.PerCounts, 2)
	written, e := PutCounts(l)
	if !comesBack(body, written, e) {
		return nil, false
	}
	return l, true
}

// PutCatalogue writes the catalogue as a body.
func PutCatalogue(x api.Catalogue) ([]byte, api.Errno) {
	if !catalogueMayBe(x) {
		return nil, api.ErrArg
	}
	var body [api.BodySize]byte
	c := cursor(body[:])
	c.write(4, x.Next)
	c.write(1, len(x.Stack))
	stack := cursor(c.take(2 * api.MaxStack)) // its room is there whatever it has
	for _, p := range x.Stack {
		stack.write(2, p)
	}
	for _, v := range x.Volumes {
		putVolume(&c, v)
	}
	return body[:], api.OK
}

func catalogueMayBe(x api.Catalogue) bool {
	if !within(x.Next, api.MaxID) || len(x.Stack) > api.MaxStack || !allWithin(x.Stack, api.MaxPages-1) ||
		len(x.Volumes) != api.MaxVolumes {
		return false
	}
	for _, v := range x.Volumes {
		if !volumeMayBe(v) {
			return false
		}
	}
	return true
}

func volumeMayBe(v api.Volume) bool {
	return within(v.ID, api.MaxID) && within(v.State, api.VolumeDying) && within(v.Size, api.MaxBlocks) &&
		within(v.Quota, api.MaxBlocks) && within(v.Root, api.MaxPages-1) && within(v.Mapped, api.MaxBlocks)
}

func putVolume(c *cursor, v api.Volume) {
	c.write(4, v.ID)
	c.write(1, v.State)
	c.write(4, v.Size)
	c.write(4, v.Quota)
	c.write(2, v.Root)
	c.write(4, v.Mapped)
}

// GetCatalogue reads it.
func GetCatalogue(body []byte) (api.Catalogue, bool) {
	c, ok := openBody(body)
	if !ok {
		return api.Catalogue{}, false
	}
	x := api.Catalogue{Next: c.read(4)}
	count := c.read(1)
	if count > api.MaxStack { // so many would reach beyond their room
		return api.Catalogue{}, false
	}
	stack := cursor(c.take(2 * api.MaxStack))
	x.Stack = stack.readAll(count, 2)
	for range api.MaxVolumes {
		x.Volumes = append(x.Volumes, getVolume(&c))
	}
	written, e := PutCatalogue(x)
	if !comesBack(body, written, e) {
		return api.Catalogue{}, false
	}
	return x, true
}

func getVolume(c *cursor) api.Volume {
	var v api.Volume
	v.ID = c.read(4)
	v.State = c.read(1)
	v.Size = c.read(4)
	v.Quota = c.read(4)
	v.Root = c.read(2)
	v.Mapped = c.read(4)
	return v
}
