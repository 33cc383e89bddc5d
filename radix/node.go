package radix

import "pagecache/api"

const allMarks = api.MarkDirty | api.MarkWriteback | api.MarkAhead

// isEmpty reports whether a subtree has no entries.
func isEmpty(n api.Node) bool {
	return len(n.Kids) == 0 && n.Value == 0 && n.Marks == 0
}

// isLeaf reports whether n is a right leaf: only frames have marks.
func isLeaf(n api.Node) bool {
	if len(n.Kids) != 0 || n.Value == 0 {
		return false
	}
	return n.Marks == 0 || n.Value > 0 && n.Marks > 0 && n.Marks <= allMarks
}

// isSubtree reports whether n is a subtree of the height h. Its depth is bounded by h, so it ends even for a node that is below itself.
func isSubtree(n api.Node, h int) bool {
	if isEmpty(n) {
		return true
	}
	if h == 0 {
		return isLeaf(n)
	}
	if len(n.Kids) != fan || n.Value != 0 {
		return false
	}
	for _, below := range n.Kids {
		if !isSubtree(below, h-1) {
			return false
		}
	}
	top := over(n.Kids)
	return !isEmpty(top) && top.Marks == n.Marks
}

// over returns the node that has these kids; the zero Node if all of them are empty, so that there is one tree only for the same entries.
func over(kids []api.Node) api.Node {
	n := api.Node{}
	for _, below := range kids {
		if !isEmpty(below) {
			n.Kids = kids
		}
		n.Marks |= below.Marks
	}
	return n
}

// onlyFirst reports whether no kid but the first one has entries, so that a lower tree would do.
func onlyFirst(n api.Node) bool {
	for k := 1; k < fan; k++ {
		if !isEmpty(kid(n, k)) {
			return false
		}
	}
	return true
}

// kid returns the kid number k; the kids of an empty subtree are empty.
func kid(n api.Node, k int) api.Node {
	if len(n.Kids) == 0 {
		return api.Node{}
	}
	return n.Kids[k]
}

// find returns the leaf of the entry i of a valid tree, or the zero Node.
func find(t api.Tree, i int) api.Node {
	way := pathTo(i)
	if !way.within(t.Height) {
		return api.Node{}
	}
	n := t.Root
	for _, k := range way.below(t.Height) {
		n = kid(n, k)
	}
	return n
}

// replace returns a tree that has the leaf (or, if it is the zero Node, nothing) as its entry i, and is otherwise a copy of a valid tree.
func replace(t api.Tree, i int, leaf api.Node) api.Tree {
	way := pathTo(i)
	for !way.within(t.Height) {
		t = api.Tree{Height: t.Height + 1, Root: over([]api.Node{t.Root, {}, {}, {}})}
	}
	return lowered(api.Tree{Height: t.Height, Root: put(t.Root, way.below(t.Height), leaf)})
}

// put returns a copy of a subtree with the leaf at the end of the way.
func put(n api.Node, way []int, leaf api.Node) api.Node {
	if len(way) == 0 {
		return leaf
	}
	kids := make([]api.Node, fan)
	for k := range kids {
		if k == way[0] {
			kids[k] = put(kid(n, k), way[1:], leaf)
		} else {
			kids[k] = clone(kid(n, k))
		}
	}
	return over(kids)
}

// clone returns a copy of a subtree that shares no memory with it.
func clone(n api.Node) api.Node {
	c := api.Node{Value: n.Value, Marks: n.Marks}
	if len(n.Kids) == 0 {
		return c
	}
	c.Kids = make([]api.Node, fan)
	for k := range c.Kids {
		c.Kids[k] = clone(n.Kids[k])
	}
	return c
}

// lowered returns the tree with the least height that its entries permit.
func lowered(t api.Tree) api.Tree {
	for t.Height > 0 && onlyFirst(t.Root) {
		t = api.Tree{Height: t.Height - 1, Root: kid(t.Root, 0)}
	}
	return t
}

// join returns the subtree that has these leaves, whose number is a power of fan.
func join(leaves []api.Node) api.Node {
	if len(leaves) == 1 {
		return leaves[0]
	}
	part := len(leaves) / fan
	kids := make([]api.Node, fan)
	for k := range kids {
		kids[k] = join(leaves[k*part : (k+1)*part])
	}
	return over(kids)
}

// firstFrame returns the least index from from on of a frame entry with the mark m (0: with any marks) in a subtree with the indices 0 to size - 1. A subtree without the mark is passed over as a whole.
func firstFrame(n api.Node, size, from, m int) (int, bool) {
	if isEmpty(n) || n.Marks&m != m || from >= size {
		return 0, false
	}
	if size == 1 {
		return 0, n.Value > 0
	}
	part := size / fan
	for k := from / part; k < fan; k++ {
		first := k * part
		if i, ok := firstFrame(n.Kids[k], part, max(from-first, 0), m); ok {
			return first + i, true
		}
	}
	return 0, false
}

// countFrames returns how many frame entries of a subtree have the mark m (0: with any marks).
func countFrames(n api.Node, m int) int {
	if n.Marks&m != m {
		return 0
	}
	if n.Value > 0 {
		return 1
	}
	sum := 0
	for _, below := range n.Kids {
		sum += countFrames(below, m)
	}
	return sum
}

// appendEntries adds the entries of a subtree with the indices first to first + size - 1 to a list.
func appendEntries(l []api.Entry, n api.Node, size, first int) []api.Entry {
	if n.Value != 0 {
		return append(l, api.Entry{Index: first, Value: n.Value, Marks: n.Marks})
	}
	part := size / fan
	for k, below := range n.Kids {
		l = appendEntries(l, below, part, first+k*part)
	}
	return l
}
