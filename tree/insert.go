package tree

import (
	"polder/api"
	"polder/node"
	"polder/pool"
)

// outcome is what came of a child into which something was inserted: it alone, or two that stand in its place.
type outcome struct {
	parts [2]owned
	many  int
}

// one is the outcome of a node that had room.
func one(x owned) outcome { return outcome{parts: [2]owned{x}, many: 1} }

// Insert maps a block to a page: the new root.
func Insert(p *pool.Pool, root, key, val int) (int, api.Errno) {
	if p == nil {
		return 0, api.ErrArg
	}
	if !p.Under() {
		return 0, api.ErrIdle
	}
	// Page 0 is in use, but no node may tell it.
	if !isKey(key) || val == 0 || p.Count(val) == 0 {
		return 0, api.ErrArg
	}
	if root == 0 {
		return write(p, owned{node: api.Node{Leaf: true, Keys: []int{key}, Vals: []int{val}}})
	}
	came, e := insert(p, root, key, val, deepest)
	if e != api.OK {
		return 0, e
	}
	return grown(p, came)
}

// insert maps a key below a page.
func insert(p *pool.Pool, n, key, val, levels int) (outcome, api.Errno) {
	if levels == 0 {
		return outcome{}, api.ErrImage
	}
	x, e := own(p, n)
	if e != api.OK {
		return outcome{}, e
	}
	if x.node.Leaf {
		return insertHere(p, x, key, val)
	}
	at := node.Child(x.node, key)
	came, e := insert(p, x.node.Vals[at], key, val, levels-1)
	if e != api.OK {
		return outcome{}, e
	}
	return replace(p, x, at, came)
}

// insertHere maps a key in a leaf.
func insertHere(p *pool.Pool, x owned, key, val int) (outcome, api.Errno) {
	if at, there := node.Find(x.node, key); there {
		if e := p.Unref(x.node.Vals[at]); e != api.OK {
			return outcome{}, e
		}
	}
	return put(x, key, val)
}

// replace has what came of a child stand in its place.
func replace(p *pool.Pool, x owned, at int, came outcome) (outcome, api.Errno) {
	if e := set(p, &x, at, came.parts[0]); e != api.OK {
		return outcome{}, e
	}
	if came.many == 1 {
		return one(x), api.OK
	}
	second := came.parts[1]
	page, e := write(p, second)
	if e != api.OK {
		return outcome{}, e
	}
	return put(x, second.node.Keys[0], page)
}

// put puts a Key into a node, which becomes two, if it is full.
func put(x owned, key, val int) (outcome, api.Errno) {
	whole, e := node.Put(x.node, key, val)
	if e == api.OK {
		return one(owned{page: x.page, node: whole}), api.OK
	}
	if e != api.ErrFull {
		return outcome{}, e
	}
	a, b, e := node.Split(x.node)
	if e != api.OK {
		return outcome{}, e
	}
	came := outcome{parts: [2]owned{{page: x.page, node: a}, {node: b}}, many: 2}
	half := &came.parts[0]
	if key > b.Keys[0] {
		half = &came.parts[1]
	}
	if half.node, e = node.Put(half.node, key, val); e != api.OK {
		return outcome{}, e
	}
	return came, api.OK
}

// grown is the root of what came of one: where it became two, another one above both.
func grown(p *pool.Pool, came outcome) (int, api.Errno) {
	if came.many == 1 {
		return write(p, came.parts[0])
	}
	top := owned{node: api.Node{Keys: make([]int, 2), Vals: make([]int, 2)}}
	for at, part := range came.parts {
		if e := set(p, &top, at, part); e != api.OK {
			return 0, e
		}
	}
	return write(p, top)
}
