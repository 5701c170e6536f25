package tree

import (
	"polder/api"
	"polder/pool"
)

// owned is a node that no other tree has, so that it may be changed. It is written once it is whole, so that no page is taken for what does not stay.
type owned struct {
	page int // 0: it has none yet
	node api.Node
}

// own has a node be this tree's alone, whose parent is. If others have it, too, it is a copy, which refers to all that the node does; by that what is below is seen to be shared, in its turn.
func own(p *pool.Pool, n int) (owned, api.Errno) {
	x, e := Load(p, n)
	if e != api.OK {
		return owned{}, e
	}
	if p.Count(n) <= 1 {
		return owned{page: n, node: x}, api.OK
	}
	for _, val := range x.Vals {
		if e := p.Ref(val); e != api.OK {
			return owned{}, e
		}
	}
	if e := p.Unref(n); e != api.OK {
		return owned{}, e
	}
	return owned{node: x}, api.OK
}

// write is the page of a node that is whole.
func write(p *pool.Pool, x owned) (int, api.Errno) {
	page, e := Save(x.node)
	if e != api.OK {
		return 0, e
	}
	if x.page == 0 {
		return p.Fresh(page)
	}
	if e := p.Write(x.page, page); e != api.OK {
		return 0, e
	}
	return x.page, api.OK
}

// giveBack gives a node's page back, if it has one. What its Vals refer to somebody else has from then on.
func giveBack(p *pool.Pool, page int) api.Errno {
	if page == 0 {
		return api.OK
	}
	return p.Unref(page)
}

// set writes a child, which stands at this place of its parent from then on.
func set(p *pool.Pool, parent *owned, at int, child owned) api.Errno {
	page, e := write(p, child)
	if e != api.OK {
		return e
	}
	parent.node.Vals[at] = page
	// In a tree that may be no child is empty; but whatever lies on the disk is taken.
	if len(child.node.Keys) > 0 {
		parent.node.Keys[at] = child.node.Keys[0]
	}
	return api.OK
}
