package node

import "polder/api"

// Put is a node with a key's value.
func Put(n api.Node, key, val int) (api.Node, api.Errno) {
	if !mayBe(n) {
		return api.Node{}, api.ErrNode
	}
	if !isKey(key) || !isVal(val) {
		return api.Node{}, api.ErrArg
	}
	at, there := Find(n, key)
	rest := at
	if there {
		rest++
	}
	one := api.Node{Leaf: n.Leaf, Keys: []int{key}, Vals: []int{val}}
	put := laid(piece(n, 0, at), one, piece(n, rest, len(n.Keys)))
	if len(put.Keys) > api.MaxKeys {
		return api.Node{}, api.ErrFull
	}
	return put, api.OK
}

// Drop is a node without what stands at a place.
func Drop(n api.Node, at int) (api.Node, api.Errno) {
	if !mayBe(n) {
		return api.Node{}, api.ErrNode
	}
	if at < 0 || at >= len(n.Keys) {
		return api.Node{}, api.ErrArg
	}
	left := laid(piece(n, 0, at), piece(n, at+1, len(n.Keys)))
	if !mayBe(left) {
		return api.Node{}, api.ErrNode
	}
	return left, api.OK
}

// Split is a node's two halves.
func Split(n api.Node) (api.Node, api.Node, api.Errno) {
	if !mayBe(n) {
		return api.Node{}, api.Node{}, api.ErrNode
	}
	return halves(n)
}

// Join is two nodes as one.
func Join(a, b api.Node) (api.Node, api.Errno) {
	if !follows(a, b) {
		return api.Node{}, api.ErrNode
	}
	if len(a.Keys)+len(b.Keys) > api.MaxKeys {
		return api.Node{}, api.ErrFull
	}
	return laid(a, b), api.OK
}

// Share gives two nodes as much as one another.
func Share(a, b api.Node) (api.Node, api.Node, api.Errno) {
	if !follows(a, b) {
		return api.Node{}, api.Node{}, api.ErrNode
	}
	return halves(laid(a, b))
}

// follows tells whether two nodes of one kind may be, the second one's Keys behind all of the first one's.
func follows(a, b api.Node) bool {
	if !mayBe(a) || !mayBe(b) || a.Leaf != b.Leaf {
		return false
	}
	last := len(a.Keys) - 1
	return last < 0 || len(b.Keys) == 0 || a.Keys[last] < b.Keys[0]
}

// halves cuts a node, or what two nodes have together, which may be more than a node may have.
func halves(n api.Node) (api.Node, api.Node, api.Errno) {
	end := len(n.Keys)
	if end < 2 {
		return api.Node{}, api.Node{}, api.ErrNode
	}
	half := (end + 1) / 2
	return laid(piece(n, 0, half)), laid(piece(n, half, end)), api.OK
}

// piece is a node's places from one on, up to another. It still shares the node's memory, so it is not answered: laid has to copy it.
func piece(n api.Node, from, to int) api.Node {
	return api.Node{Leaf: n.Leaf, Keys: n.Keys[from:to], Vals: n.Vals[from:to]}
}

// laid is pieces of one kind, one behind the other, in new memory.
func laid(pieces ...api.Node) api.Node {
	var n api.Node
	for i := range len(pieces) {
		n.Leaf = pieces[i].Leaf
		n.Keys = append(n.Keys, pieces[i].Keys...)
		n.Vals = append(n.Vals, pieces[i].Vals...)
	}
	return n
}
