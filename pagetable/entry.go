package pagetable

import (
	"cmp"
	"iter"
	"slices"

	"pagecache/api"
)

// isRight reports whether an entry is right.
func isRight(e api.Pte) bool {
	return isFrom(e.Proc, 0, api.MaxProcs-1) && isFrom(e.Page, 0, api.MaxAddress-1) && isFrom(e.Frame, 1, api.MaxFrames)
}

// isFrom reports whether a number is from a least one to a greatest one.
func isFrom(n, least, greatest int) bool {
	return n >= least && n <= greatest
}

// compare tells which of two entries comes first. What they show does not count: entries of one page are equal.
func compare(a, b api.Pte) int {
	return cmp.Or(cmp.Compare(a.Proc, b.Proc), cmp.Compare(a.Page, b.Page))
}

// find returns the place of the entry of a page in a list that is right, or the place where it belongs.
func find(l []api.Pte, e api.Pte) (int, bool) {
	return slices.BinarySearchFunc(l, e, compare)
}

// entriesOf goes through the entries of a frame, with their places. A list that is not right has none, so that it is left as it is.
func entriesOf(l []api.Pte, frame int) iter.Seq2[int, api.Pte] {
	return func(yield func(int, api.Pte) bool) {
		if !Check(l) {
			return
		}
		for i, e := range l {
			if e.Frame == frame && !yield(i, e) {
				return
			}
		}
	}
}
