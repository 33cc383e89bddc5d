package area

import "pagecache/api"

// isWithin reports whether so many numbers from start on, at least one, are from 0 to limit - 1.
func isWithin(start, count, limit int) bool {
	return start >= 0 && count >= 1 && start <= limit-count
}

func isRight(a api.Area) bool {
	return isWithin(a.Start, a.Count, api.MaxAddress) && a.File >= 0 && a.File < api.MaxFiles && isWithin(a.Page, a.Count, api.MaxPages)
}

// end returns the page behind an area.
func end(a api.Area) int {
	return a.Start + a.Count
}

// place returns how many areas of a list begin before a page.
func place(l []api.Area, page int) int {
	n := 0
	for n < len(l) && l[n].Start < page {
		n++
	}
	return n
}

// before returns what an area has before a page, or the zero Area, which is no right one, if it has nothing there.
func before(a api.Area, page int) api.Area {
	if page <= a.Start {
		return api.Area{}
	}
	a.Count = min(a.Count, page-a.Start)
	return a
}

// from returns what an area has from a page on, or the zero Area if it has nothing there.
func from(a api.Area, page int) api.Area {
	if page >= end(a) {
		return api.Area{}
	}
	skip := max(0, page-a.Start)
	a.Start, a.Count, a.Page = a.Start+skip, a.Count-skip, a.Page+skip
	return a
}

// without returns what areas have before start and from stop on.
func without(l []api.Area, start, stop int) []api.Area {
	var left []api.Area
	for _, a := range l {
		for _, part := range [...]api.Area{before(a, start), from(a, stop)} {
			if part != (api.Area{}) {
				left = append(left, part)
			}
		}
	}
	return left
}

// overlaps reports whether an area has a page of a list. Such an area is not as it was without the pages.
func overlaps(l []api.Area, a api.Area) bool {
	for _, b := range l {
		if before(b, a.Start) != b && from(b, end(a)) != b {
			return true
		}
	}
	return false
}

// checkMap returns the first error of adding an area.
func checkMap(l []api.Area, a api.Area) api.Errno {
	switch {
	case !Check(l):
		return api.ErrInvalid
	case !isRight(a):
		return api.ErrRange
	case overlaps(l, a):
		return api.ErrExists
	case len(l) == api.MaxAreas:
		return api.ErrFull
	}
	return api.OK
}

// checkUnmap returns the first error of removing pages that is not due to what is left.
func checkUnmap(l []api.Area, start, count int) api.Errno {
	switch {
	case !Check(l):
		return api.ErrInvalid
	case !isWithin(start, count, api.MaxAddress):
		return api.ErrRange
	}
	return api.OK
}
