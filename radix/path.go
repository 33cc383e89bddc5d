package radix

const (
	fan    = 4 // kids of a node
	levels = 4 // the greatest height, which has room for all indices
)

// path has the numbers of the kids from the root of a tree of the greatest height to a leaf.
type path [levels]int

// pathTo returns the path to the entry i, which is from 0 to MaxIndex.
func pathTo(i int) path {
	var p path
	for h := range p {
		p[levels-1-h] = i / width(h) % fan
	}
	return p
}

// width returns how many indices a subtree of the height h has.
func width(h int) int {
	return 1 << (2 * h)
}

// within reports whether a tree of the height h has the leaf of a path: the greater trees around it are entered by their first kids only.
func (p path) within(h int) bool {
	clear(p[levels-h:])
	return p == path{}
}

// below returns the part of a path that is inside of a tree of the height h.
func (p path) below(h int) []int {
	return p[levels-h:]
}

// heightFor returns the least height of a tree that has the index i.
func heightFor(i int) int {
	p := pathTo(i)
	h := 0
	for !p.within(h) {
		h++
	}
	return h
}
