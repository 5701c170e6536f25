package tree

import (
	"polder/api"
	"polder/node"
	"polder/pool"
)

// Delete takes a block's mapping away: the new root; whether there was one.
func Delete(p *pool.Pool, root, key int) (int, bool, api.Errno) {
	if p == nil {
		return 0, false, api.ErrArg
	}
	if !p.Under() {
		return 0, false, api.ErrIdle
	}
	// On the way down nodes are copied, which for a key that is not there would be in vain.
	val, e := Lookup(p, root, key)
	if e != api.OK {
		return 0, false, e
	}
	if val == 0 {
		return root, false, api.OK
	}
	x, e := remove(p, root, key)
	if e != api.OK {
		return 0, false, e
	}
	left, e := shrunk(p, x)
	if e != api.OK {
		return 0, false, e
	}
	return left, true, api.OK
}

// remove takes a key away that is below a page, as a Lookup told: so no ring is on the way, either. What comes of the page's node may have too few Keys.
func remove(p *pool.Pool, n, key int) (owned, api.Errno) {
	x, e := own(p, n)
	if e != api.OK {
		return owned{}, e
	}
	if x.node.Leaf {
		return removeHere(p, x, key)
	}
	at := node.Child(x.node, key)
	child, e := remove(p, x.node.Vals[at], key)
	if e != api.OK {
		return owned{}, e
	}
	if len(child.node.Keys) < api.MinKeys && len(x.node.Keys) > 1 {
		e = mend(p, &x, at, child)
	} else {
		e = set(p, &x, at, child)
	}
	if e != api.OK {
		return owned{}, e
	}
	return x, api.OK
}

// removeHere takes a key of a leaf away.
func removeHere(p *pool.Pool, x owned, key int) (owned, api.Errno) {
	at, _ := node.Find(x.node, key)
	if e := p.Unref(x.node.Vals[at]); e != api.OK {
		return owned{}, e
	}
	left, e := node.Drop(x.node, at)
	if e != api.OK {
		return owned{}, e
	}
	return owned{page: x.page, node: left}, api.OK
}

// mend sets a child that has too few Keys, and the one beside it: both as one, or each with as many as the other one.
func mend(p *pool.Pool, parent *owned, at int, child owned) api.Errno {
	beside := at - 1
	if at == 0 {
		beside = 1
	}
	other, e := own(p, parent.node.Vals[beside])
	if e != api.OK {
		return e
	}
	left, pair := beside, [2]owned{other, child}
	if at < beside {
		left, pair = at, [2]owned{child, other}
	}
	whole, e := node.Join(pair[0].node, pair[1].node)
	if e == api.ErrFull {
		return share(p, parent, left, pair)
	}
	if e != api.OK {
		return e
	}
	return join(p, parent, left, pair, whole)
}

// share sets two children, the first one at this place, each with half of what both have.
func share(p *pool.Pool, parent *owned, left int, pair [2]owned) api.Errno {
	a, b, e := node.Share(pair[0].node, pair[1].node)
	if e != api.OK {
		return e
	}
	pair[0].node, pair[1].node = a, b
	for i, x := range pair {
		if e := set(p, parent, left+i, x); e != api.OK {
			return e
		}
	}
	return api.OK
}

// join sets one node instead of two, in one of their pages, if there is any.
func join(p *pool.Pool, parent *owned, left int, pair [2]owned, whole api.Node) api.Errno {
	kept, spare := pair[0].page, pair[1].page
	if kept == 0 {
		kept, spare = spare, kept
	}
	if e := giveBack(p, spare); e != api.OK {
		return e
	}
	rest, e := node.Drop(parent.node, left+1)
	if e != api.OK {
		return e
	}
	parent.node = rest
	return set(p, parent, left, owned{page: kept, node: whole})
}

// shrunk is the root of what is left of one: nothing, or its only child, is a tree without it.
func shrunk(p *pool.Pool, x owned) (int, api.Errno) {
	left := 0
	switch {
	case len(x.node.Keys) == 0:
	case !x.node.Leaf && len(x.node.Keys) == 1:
		left = x.node.Vals[0]
	default:
		return write(p, x)
	}
	if e := giveBack(p, x.page); e != api.OK {
		return 0, e
	}
	return left, api.OK
}
