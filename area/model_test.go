package area

import (
	"math"
	"slices"
	"testing"

	"pagecache/api"
)

// The limits, in numbers as the document says them: how many pages an address space has, how many pages a file has, how many files there are, and how many areas a list has.
const (
	mostAddress = 64
	mostPages   = 8
	mostFiles   = 8
	mostAreas   = 8
)

// farNumbers are numbers that are out of every range. Some of them are in one when they are cut off, or when something is added to them.
var farNumbers = []int{-1, -2, -8, -64, mostAddress, mostAddress + 1, 127, 128, 255, 256, 1 << 31, 1 << 32, 1<<32 + 5, -1 << 32, -1<<32 + 5, math.MaxInt, math.MaxInt - 1, math.MaxInt - 7, math.MaxInt - 63, math.MinInt, math.MinInt + 1, math.MinInt + 7, math.MinInt + 64}

// area returns an area that is written to if its numbers say so.
func area(start, count, file, page int) api.Area {
	return api.Area{Start: start, Count: count, File: file, Page: page, Write: (start+count+file+page)%2 == 0}
}

// areas returns a list of areas with start, count, file and page in turn.
func areas(numbers ...int) []api.Area {
	var l []api.Area
	for i := 0; i+3 < len(numbers); i += 4 {
		l = append(l, area(numbers[i], numbers[i+1], numbers[i+2], numbers[i+3]))
	}
	return l
}

// right returns right lists, from the least ones to the greatest ones.
func right() [][]api.Area {
	return [][]api.Area{
		nil, {}, areas(0, 1, 0, 0), areas(63, 1, 7, 7), areas(0, 8, 7, 0), areas(56, 8, 0, 0), areas(1, 4, 2, 0), areas(4, 3, 5, 5),
		areas(0, 8, 1, 0, 8, 8, 1, 0), areas(0, 8, 1, 0, 9, 1, 1, 1), areas(3, 2, 4, 6, 5, 2, 4, 0, 9, 3, 4, 5), areas(2, 4, 3, 1, 6, 2, 3, 5, 60, 4, 3, 1),
		areas(0, 2, 0, 0, 3, 2, 1, 1, 6, 2, 2, 2, 9, 2, 3, 3, 12, 2, 4, 4, 15, 2, 5, 5, 18, 2, 6, 6),
		areas(0, 8, 0, 0, 8, 8, 1, 0, 16, 8, 2, 0, 24, 8, 3, 0, 32, 8, 4, 0, 40, 8, 5, 0, 48, 8, 6, 0, 56, 8, 7, 0),
		areas(1, 6, 0, 1, 9, 6, 0, 2, 17, 6, 0, 0, 25, 3, 0, 5, 33, 6, 7, 1, 41, 6, 7, 2, 49, 6, 0, 1, 57, 6, 0, 1),
		areas(0, 1, 3, 0, 1, 1, 3, 1, 2, 1, 3, 2, 3, 1, 3, 3, 60, 1, 3, 4, 61, 1, 3, 5, 62, 1, 3, 6, 63, 1, 3, 7),
	}
}

// badAreas are areas that are not right, for one reason each, and some for several.
func badAreas() []api.Area {
	l := []api.Area{
		{}, area(0, 0, 0, 0), area(5, 0, 3, 2), area(0, 9, 0, 0), area(60, 5, 0, 0), area(57, 8, 0, 0), area(63, 2, 0, 0), area(1, 64, 0, 0), area(0, 64, 0, 0), area(0, 65, 0, 0),
		area(3, 8, 0, 1), area(3, 2, 0, 7), area(3, 4, 0, 5), area(3, 1, 0, 8), area(3, 1, 8, 0), area(3, 1, 9, 0), area(3, 1, -1, 0), area(3, 2, 0, -1), area(-1, 2, 0, 0), area(-1, 1, 0, 0), area(3, -1, 0, 3),
		area(math.MaxInt, math.MinInt, 0, 0), area(math.MinInt, math.MaxInt, 0, math.MinInt), area(math.MaxInt, math.MaxInt, 0, math.MaxInt), area(1, math.MaxInt, 0, 1),
	}
	for _, n := range farNumbers {
		l = append(l, area(n, 2, 3, 4), area(5, n, 3, 4), area(5, 2, n, 4), area(5, 2, 3, n))
	}
	return l
}

// badLists are lists that are not right, for one reason each, and some for several.
func badLists() [][]api.Area {
	l := [][]api.Area{
		areas(1, 4, 2, 0, 4, 1, 2, 0), areas(1, 4, 2, 0, 1, 4, 2, 0), areas(1, 4, 2, 0, 2, 2, 2, 1), areas(2, 2, 2, 1, 1, 4, 2, 0), areas(1, 4, 2, 0, 1, 1, 2, 0), areas(0, 1, 0, 0, 0, 1, 0, 0), areas(63, 1, 0, 0, 63, 1, 0, 0),
		areas(5, 1, 0, 0, 4, 1, 0, 0), areas(5, 2, 0, 0, 0, 1, 0, 0), areas(0, 8, 0, 0, 10, 2, 0, 0, 8, 2, 0, 0), areas(0, 2, 0, 0, 8, 4, 0, 0, 11, 4, 1, 0), areas(0, 2, 0, 0, 8, 4, 0, 0, 1, 1, 1, 0),
		make([]api.Area, 1), make([]api.Area, 8), make([]api.Area, 9), make([]api.Area, 1000),
		append(right()[15], area(63, 1, 0, 0)), append(right()[14], area(63, 1, 0, 0)), areas(0, 1, 0, 0, 2, 1, 0, 0, 4, 1, 0, 0, 6, 1, 0, 0, 8, 1, 0, 0, 10, 1, 0, 0, 12, 1, 0, 0, 14, 1, 0, 0, 16, 1, 0, 0),
	}
	for _, bad := range badAreas() {
		for _, r := range [][]api.Area{right()[2], right()[10], right()[14]} {
			for i := range r {
				own := slices.Clone(r)
				own[i] = bad
				l = append(l, own)
			}
		}
	}
	return l
}

// modelPages returns the numbers from start on, if these are at least one, and from 0 to limit - 1. It counts them one by one.
func modelPages(start, count, limit int) ([]int, bool) {
	if start < 0 || start >= limit || count < 1 || count > limit {
		return nil, false
	}
	var pages []int
	for i := range count {
		pages = append(pages, start+i)
	}
	return pages, pages[count-1] < limit
}

func modelRightArea(a api.Area) bool {
	_, inSpace := modelPages(a.Start, a.Count, mostAddress)
	_, inFile := modelPages(a.Page, a.Count, mostPages)
	return inSpace && inFile && a.File >= 0 && a.File <= 7
}

// space is what an address space shows: for each page the area that has it, by its number in the list and from 1 on, or 0.
type space [mostAddress]int

// modelSpace lays the areas of a list out, and reports whether they are right, ascend and do not overlap.
func modelSpace(l []api.Area) (space, bool) {
	var s space
	if len(l) > 8 {
		return s, false
	}
	for i, a := range l {
		if !modelRightArea(a) || i > 0 && l[i-1].Start >= a.Start {
			return space{}, false
		}
		for page := a.Start; page < a.Start+a.Count; page++ {
			if s[page] != 0 {
				return space{}, false
			}
			s[page] = i + 1
		}
	}
	return s, true
}

func modelMap(l []api.Area, a api.Area) ([]api.Area, api.Errno) {
	s, ok := modelSpace(l)
	if !ok {
		return l, api.ErrInvalid
	}
	if !modelRightArea(a) {
		return l, api.ErrRange
	}
	for page := range a.Count {
		if s[a.Start+page] != 0 {
			return l, api.ErrExists
		}
	}
	if len(l) >= 8 {
		return l, api.ErrFull
	}
	more := append(slices.Clone(l), a)
	slices.SortFunc(more, func(x, y api.Area) int { return x.Start - y.Start })
	return more, api.OK
}

// modelUnmap takes the pages out of the address space one by one, and makes areas of the rows of pages that are left of each area.
func modelUnmap(l []api.Area, start, count int) ([]api.Area, api.Errno) {
	s, ok := modelSpace(l)
	if !ok {
		return l, api.ErrInvalid
	}
	pages, ok := modelPages(start, count, mostAddress)
	if !ok {
		return l, api.ErrRange
	}
	for _, page := range pages {
		s[page] = 0
	}
	var left []api.Area
	for page, owner := range s {
		switch {
		case owner == 0:
		case page > 0 && s[page-1] == owner:
			left[len(left)-1].Count++
		default:
			a := l[owner-1]
			left = append(left, api.Area{Start: page, Count: 1, File: a.File, Page: a.Page + page - a.Start, Write: a.Write})
		}
	}
	if len(left) > 8 {
		return l, api.ErrFull
	}
	return left, api.OK
}

func modelFind(l []api.Area, page int) (api.Area, bool) {
	s, ok := modelSpace(l)
	if !ok || page < 0 || page > 63 || s[page] == 0 {
		return api.Area{}, false
	}
	return l[s[page]-1], true
}

// modelRoom tries each page.
func modelRoom(l []api.Area, count int) (int, bool) {
	s, ok := modelSpace(l)
	if !ok {
		return 0, false
	}
	for start := range mostAddress {
		pages, ok := modelPages(start, count, mostAddress)
		if ok && !slices.ContainsFunc(pages, func(page int) bool { return s[page] != 0 }) {
			return start, true
		}
	}
	return 0, false
}

// modelShown asks each page of the address space what it shows.
func modelShown(l []api.Area, file, page int) []int {
	var shown []int
	s, _ := modelSpace(l)
	for at, owner := range s {
		if owner != 0 && l[owner-1].File == file && l[owner-1].Page+at-l[owner-1].Start == page {
			shown = append(shown, at)
		}
	}
	return shown
}

// spare is what stands behind a list in its memory.
var spare = api.Area{Start: 77, Count: 777, File: 7777, Page: -7, Write: true}

// roomy returns a list whose memory has room for three elements more.
func roomy(l []api.Area) []api.Area {
	return append(slices.Clone(l), spare, spare, spare)[:len(l)]
}

// isAsBefore reports whether a list that roomy returned is as it was, also behind its end.
func isAsBefore(own, l []api.Area) bool {
	return slices.Equal(own, l) && slices.Equal(own[:len(l)+3][len(l):], []api.Area{spare, spare, spare})
}

// expectChange calls an operation, compares its results with these, and checks that it shares no memory with its argument and does not change it.
func expectChange(t *testing.T, what string, l, want []api.Area, wantErr api.Errno, change func(l []api.Area) ([]api.Area, api.Errno)) {
	t.Helper()
	own := roomy(l)
	got, err := change(own)
	if !slices.Equal(got, want) || err != wantErr {
		t.Fatalf("%s of %v: %v and %d, want %v and %d", what, l, got, err, want, wantErr)
	}
	got = got[:cap(got)]
	for i := range got {
		got[i] = api.Area{Start: -55, Count: -555}
	}
	if !isAsBefore(own, l) {
		t.Fatalf("%s of %v: the list became %v", what, l, own[:len(l)+3])
	}
}

func expectMap(t *testing.T, l []api.Area, a api.Area) {
	t.Helper()
	want, err := modelMap(l, a)
	expectChange(t, "Map", l, want, err, func(l []api.Area) ([]api.Area, api.Errno) { return Map(l, a) })
}

func expectUnmap(t *testing.T, l []api.Area, start, count int) {
	t.Helper()
	want, err := modelUnmap(l, start, count)
	expectChange(t, "Unmap", l, want, err, func(l []api.Area) ([]api.Area, api.Errno) { return Unmap(l, start, count) })
}

func expectFind(t *testing.T, l []api.Area, page int) {
	t.Helper()
	own := roomy(l)
	a, ok := Find(own, page)
	want, wantOK := modelFind(l, page)
	if a != want || ok != wantOK || !isAsBefore(own, l) {
		t.Fatalf("Find of the page %d in %v: %v and %v, want %v and %v; the list became %v", page, l, a, ok, want, wantOK, own)
	}
}

func expectRoom(t *testing.T, l []api.Area, count int) {
	t.Helper()
	own := roomy(l)
	page, ok := Room(own, count)
	want, wantOK := modelRoom(l, count)
	if page != want || ok != wantOK || !isAsBefore(own, l) {
		t.Fatalf("Room of %d pages in %v: %d and %v, want %d and %v; the list became %v", count, l, page, ok, want, wantOK, own)
	}
}

func expectShown(t *testing.T, l []api.Area, file, page int) {
	t.Helper()
	own := roomy(l)
	if got, want := Shown(own, file, page), modelShown(l, file, page); !slices.Equal(got, want) || !isAsBefore(own, l) {
		t.Fatalf("Shown of the page %d of the file %d in %v: %v, want %v; the list became %v", page, file, l, got, want, own)
	}
}

func expectCheck(t *testing.T, l []api.Area) {
	t.Helper()
	own := roomy(l)
	if _, want := modelSpace(l); Check(own) != want || !isAsBefore(own, l) {
		t.Fatalf("Check of %v: not %v; the list became %v", l, want, own)
	}
}
