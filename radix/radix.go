// Package radix has the index of a file's pages: radix trees whose entries are frames, with marks, or shadows (doc/01-radix.md).
package radix

import "pagecache/api"

// Valid reports whether a tree is valid.
func Valid(t api.Tree) bool {
	if t.Height < 0 || t.Height > levels || !isSubtree(t.Root, t.Height) {
		return false
	}
	return t.Height == 0 || !onlyFirst(t.Root)
}

// Get returns the value of the entry i, or 0 if there is none.
func Get(t api.Tree, i int) int {
	if check(t, i) != api.OK {
		return 0
	}
	return find(t, i).Value
}

// Set gives the entry i the value v and no marks, or removes it if v is 0.
func Set(t api.Tree, i, v int) (api.Tree, api.Errno) {
	if err := check(t, i); err != api.OK {
		return api.Tree{}, err
	}
	return replace(t, i, api.Node{Value: v}), api.OK
}

// Mark adds the mark m to the frame entry i.
func Mark(t api.Tree, i, m int) (api.Tree, api.Errno) {
	leaf, err := markable(t, i, m)
	if err != api.OK {
		return api.Tree{}, err
	}
	return replace(t, i, api.Node{Value: leaf.Value, Marks: leaf.Marks | m}), api.OK
}

// Unmark takes the mark m away from the frame entry i.
func Unmark(t api.Tree, i, m int) (api.Tree, api.Errno) {
	leaf, err := markable(t, i, m)
	if err != api.OK {
		return api.Tree{}, err
	}
	return replace(t, i, api.Node{Value: leaf.Value, Marks: leaf.Marks &^ m}), api.OK
}

// Marked reports whether the entry i has the mark m.
func Marked(t api.Tree, i, m int) bool {
	return isMark(m) && check(t, i) == api.OK && find(t, i).Marks&m != 0
}

// Next returns the least index from from on of a frame entry that has the mark m, or of any frame entry if m is 0.
func Next(t api.Tree, from, m int) (int, bool) {
	if !canSearch(t, m) {
		return 0, false
	}
	return firstFrame(t.Root, width(t.Height), max(from, 0), m)
}

// Count returns how many frame entries have the mark m, or how many there are if m is 0.
func Count(t api.Tree, m int) int {
	if !canSearch(t, m) {
		return 0
	}
	return countFrames(t.Root, m)
}

// Entries returns all entries, ascending by their indices.
func Entries(t api.Tree) []api.Entry {
	if !Valid(t) {
		return nil
	}
	return appendEntries(nil, t.Root, width(t.Height), 0)
}

// Build returns the tree that has the entries of l.
func Build(l []api.Entry) (api.Tree, api.Errno) {
	for _, x := range l {
		if err := checkEntry(x); err != api.OK {
			return api.Tree{}, err
		}
	}
	var leaves [api.MaxIndex + 1]api.Node
	height := 0
	for _, x := range l {
		if leaves[x.Index].Value != 0 {
			return api.Tree{}, api.ErrExists
		}
		leaves[x.Index] = api.Node{Value: x.Value, Marks: x.Marks}
		height = max(height, heightFor(x.Index))
	}
	return api.Tree{Height: height, Root: join(leaves[:width(height)])}, api.OK
}

// check returns the first error of those that all functions with a place in a tree have.
func check(t api.Tree, i int) api.Errno {
	if !Valid(t) {
		return api.ErrInvalid
	}
	if i < 0 || i > api.MaxIndex {
		return api.ErrRange
	}
	return api.OK
}

// markable returns the leaf of the frame entry i, whose mark m can be changed.
func markable(t api.Tree, i, m int) (api.Node, api.Errno) {
	if err := check(t, i); err != api.OK {
		return api.Node{}, err
	}
	if !isMark(m) {
		return api.Node{}, api.ErrInvalid
	}
	leaf := find(t, i)
	if leaf.Value <= 0 {
		return api.Node{}, api.ErrUnknown
	}
	return leaf, api.OK
}

// canSearch reports whether a tree can be searched for the mark m, or for all frames if m is 0.
func canSearch(t api.Tree, m int) bool {
	return (m == 0 || isMark(m)) && Valid(t)
}

// checkEntry returns what is wrong with one entry of a list.
func checkEntry(x api.Entry) api.Errno {
	if x.Index < 0 || x.Index > api.MaxIndex {
		return api.ErrRange
	}
	if !isLeaf(api.Node{Value: x.Value, Marks: x.Marks}) {
		return api.ErrInvalid
	}
	return api.OK
}

// isMark reports whether m is one of the three marks.
func isMark(m int) bool {
	return m == api.MarkDirty || m == api.MarkWriteback || m == api.MarkAhead
}
