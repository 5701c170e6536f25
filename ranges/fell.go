package ranges

import (
	"polder/api"
	"polder/pool"
	"polder/tree"
)

// Fell does one step of felling the trees whose nodes are on a stack: what is left on it.
func Fell(p *pool.Pool, stack []int) ([]int, api.Errno) {
	if p == nil {
		return nil, api.ErrArg
	}
	if !p.Under() {
		return nil, api.ErrIdle
	}
	if len(stack) > api.MaxStack {
		return nil, api.ErrArg
	}
	if len(stack) == 0 {
		return nil, api.OK
	}
	last := len(stack) - 1
	instead, e := fell(p, stack[last])
	if e != api.OK {
		return nil, e
	}
	// Who handed the stack in still needs it as it was, where the step is aborted.
	left := make([]int, last, last+len(instead))
	copy(left, stack)
	return append(left, instead...), api.OK
}

// fell does the step of the last node: those that stand on the stack instead of it.
func fell(p *pool.Pool, r int) ([]int, api.Errno) {
	if p.Count(r) > 1 {
		return nil, p.Unref(r)
	}
	x, e := tree.Load(p, r)
	if e != api.OK {
		return nil, e
	}
	if x.Leaf {
		return nil, fellLeaf(p, r, x)
	}
	return fellInner(p, r, x)
}

// fellLeaf gives a leaf back, and what it refers to.
func fellLeaf(p *pool.Pool, r int, x api.Node) api.Errno {
	for _, val := range x.Vals {
		if e := p.Unref(val); e != api.OK {
			return e
		}
	}
	return p.Unref(r)
}

// fellInner takes a node's last child off. What the node referred to the stack does from then on, so that the child's count stays.
func fellInner(p *pool.Pool, r int, x api.Node) ([]int, api.Errno) {
	last := len(x.Vals) - 1
	child := x.Vals[last]
	if last == 0 {
		return []int{child}, p.Unref(r)
	}
	page, e := tree.Save(api.Node{Keys: x.Keys[:last], Vals: x.Vals[:last]})
	if e != api.OK {
		return nil, e
	}
	return []int{r, child}, p.Write(r, page)
}
