package readahead

import (
	"slices"

	"pagecache/api"
	"pagecache/stream"
)

// sizes are the sizes of windows that begin a readahead: the powers of two from 2 to MaxWindow.
var sizes = [...]int{2, 4, 8}

// isWithin reports whether n is from least to most.
func isWithin(n, least, most int) bool {
	return n >= least && n <= most
}

// checkPlan returns the first error of Plan.
func checkPlan(w api.Window, s api.Stream, from, to, end int) api.Errno {
	if !Check(w) || !stream.Check([]api.Stream{s}) {
		return api.ErrInvalid
	}
	if from < 0 || from >= to || to > api.MaxIndex+1 || !isWithin(end, 0, api.MaxIndex+1) {
		return api.ErrRange
	}
	return api.OK
}

// nextWindow returns the new window for an access of a forward stream, and false if the one that it has stays.
func nextWindow(w api.Window, from, to int) (api.Window, bool) {
	switch {
	case asksForNext(w, from, to):
		return windowFrom(max(behind(w), to), Grown(w.Size)), true
	case !isNear(w, from, to):
		return windowFrom(to, First(to-from)), true
	}
	return w, false
}

// windowFrom returns a window whose marker is its first page, so that the next window is asked for as soon as the reader arrives.
func windowFrom(start, size int) api.Window {
	return api.Window{Start: start, Size: size, Async: size}
}

// behind returns the page behind a window.
func behind(w api.Window) int {
	return w.Start + w.Size
}

// asksForNext reports whether an access has the marker of a window, or its last page, which asks as well because a window need not have a marker, and the marker can have been passed over. The zero window has neither.
func asksForNext(w api.Window, from, to int) bool {
	marker, ok := Marker(w)
	return ok && isWithin(marker, from, to-1) || isWithin(behind(w)-1, from, to-1)
}

// isNear reports whether an access has a page so close to a window that its reader may still come to it. No page is close to the zero window.
func isNear(w api.Window, from, to int) bool {
	return w.Size > 0 && to-1 >= w.Start-w.Size && from <= behind(w)
}

// pagesOf returns the pages of a window.
func pagesOf(w api.Window) []int {
	var pages []int
	for page := w.Start; page < behind(w); page++ {
		pages = append(pages, page)
	}
	return pages
}

// pagesBefore returns pages without those that a file of end pages does not have.
func pagesBefore(end int, pages []int) []int {
	return slices.DeleteFunc(pages, func(page int) bool { return page >= end })
}
