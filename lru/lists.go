package lru

import (
	"slices"

	"pagecache/api"
)

// copied returns lists with memory of their own.
func copied(l api.Lru) api.Lru {
	return api.Lru{Active: slices.Clone(l.Active), Inactive: slices.Clone(l.Inactive), Ref: slices.Clone(l.Ref)}
}

// checkFrame returns the first error that all functions have that are about one frame.
func checkFrame(l api.Lru, f int) api.Errno {
	if !Check(l) {
		return api.ErrInvalid
	}
	if !isFrame(f) {
		return api.ErrRange
	}
	return api.OK
}

// checkListed returns the first error of the functions that are about a frame of the lists.
func checkListed(l api.Lru, f int) api.Errno {
	if err := checkFrame(l, f); err != api.OK {
		return err
	}
	if !isListed(l, f) {
		return api.ErrUnknown
	}
	return api.OK
}

// isFrame reports whether there can be a frame of this number.
func isFrame(f int) bool {
	return f >= 1 && f <= api.MaxFrames
}

// isListed reports whether a frame is in one of the lists.
func isListed(l api.Lru, f int) bool {
	return slices.Contains(l.Active, f) || slices.Contains(l.Inactive, f)
}

// isReferenced reports whether a frame is referenced.
func isReferenced(l api.Lru, f int) bool {
	return slices.Contains(l.Ref, f)
}

// toFront returns a list with a frame at its front, which may be in it already.
func toFront(list []int, f int) []int {
	return append([]int{f}, without(list, f)...)
}

// without returns a list without a frame, in memory of its own.
func without(list []int, f int) []int {
	return slices.DeleteFunc(slices.Clone(list), func(g int) bool { return g == f })
}

// withReference returns referenced frames with one more.
func withReference(ref []int, f int) []int {
	at, _ := slices.BinarySearch(ref, f)
	return slices.Insert(slices.Clone(ref), at, f)
}

// lastMoved returns lists with the last frame of Active moved: it gets a second turn there if it is referenced.
func lastMoved(l api.Lru) api.Lru {
	f := l.Active[len(l.Active)-1]
	if isReferenced(l, f) {
		return api.Lru{Active: toFront(l.Active, f), Inactive: l.Inactive, Ref: without(l.Ref, f)}
	}
	return api.Lru{Active: without(l.Active, f), Inactive: toFront(l.Inactive, f), Ref: l.Ref}
}
