package area

import (
	"slices"
	"testing"

	"pagecache/api"
)

// expectAll compares all functions but Map with the model, for one list and these numbers.
func expectAll(t *testing.T, l []api.Area, numbers []int) {
	t.Helper()
	expectCheck(t, l)
	for _, n := range numbers {
		expectFind(t, l, n)
		expectRoom(t, l, n)
		for _, m := range numbers {
			expectUnmap(t, l, n, m)
			expectShown(t, l, n, m)
		}
	}
}

// upTo returns the numbers from the first one to the last one.
func upTo(first, last int) []int {
	var numbers []int
	for n := first; n <= last; n++ {
		numbers = append(numbers, n)
	}
	return numbers
}

// P16.1, P16.2, P16.3: the right lists with all numbers in range, and with ones that are far from it.
func TestRightLists(t *testing.T) {
	for _, l := range right() {
		expectAll(t, l, append(upTo(-2, 66), farNumbers...))
	}
}

// P16.1: the right lists with all areas of some files, and with ones that are not right.
func TestMapAll(t *testing.T) {
	for _, l := range right() {
		for start := range mostAddress {
			for count := 1; count <= mostPages; count++ {
				expectMap(t, l, area(start, count, start%mostFiles, 0))
				expectMap(t, l, area(start, count, count-1, start%mostPages))
			}
		}
		for _, a := range badAreas() {
			expectMap(t, l, a)
		}
	}
}

// P16.1, P16.2, P16.3: lists that are not right, with numbers in range and others.
func TestBadLists(t *testing.T) {
	for _, l := range badLists() {
		expectAll(t, l, []int{-1, 0, 1, 2, 5, 63, 64})
		for _, a := range []api.Area{{}, area(0, 1, 0, 0), area(40, 2, 1, 1), area(63, 1, 7, 7), area(63, 2, 7, 6)} {
			expectMap(t, l, a)
		}
	}
}

// longer returns all lists of one area more, with these starts, counts and pages of the file 3.
func longer(shorter [][]api.Area, starts, counts, pages []int) [][]api.Area {
	var all [][]api.Area
	for _, l := range shorter {
		for _, start := range starts {
			for _, count := range counts {
				for _, page := range pages {
					all = append(all, append(slices.Clone(l), area(start, count, 3, page)))
				}
			}
		}
	}
	return all
}

// P16.1, P16.2, P16.3: all lists of up to two areas near both ends of the address space, right ones and others.
func TestSmallLists(t *testing.T) {
	starts, counts, pages := []int{-1, 0, 1, 2, 62, 63, 64}, []int{0, 1, 2, 3}, []int{-1, 0, 6, 7, 8}
	lists := [][]api.Area{nil}
	for range 3 {
		for _, l := range lists {
			expectAll(t, l, []int{0, 1, 3, 7, 62, 63})
			expectMap(t, l, area(1, 1, 3, 0))
			expectMap(t, l, area(62, 2, 3, 0))
		}
		lists = longer(lists, starts, counts, pages)
	}
}

// P16.1, P16.2, P16.3: all right lists of up to four short areas in six pages, with all that can be done there.
func TestDenseLists(t *testing.T) {
	lists := [][]api.Area{nil}
	for range 5 {
		for _, l := range lists {
			expectAll(t, l, upTo(0, 6))
			for start := range 6 {
				expectMap(t, l, area(start, 1, 3, 2))
				expectMap(t, l, area(start, 3, 3, 0))
			}
		}
		lists = slices.DeleteFunc(longer(lists, upTo(0, 5), []int{1, 2, 4}, []int{0, 3}), func(l []api.Area) bool {
			_, ok := modelSpace(l)
			return !ok
		})
	}
}

// step is what one of the operations makes of a list, by a number that chooses the operation and its arguments.
func step(l []api.Area, number int) []api.Area {
	start, count := number%66-1, number/66%9
	if number>>20%3 == 0 {
		l, _ = Unmap(l, start, count)
		return l
	}
	if page, ok := Room(l, count); ok && number>>18%2 == 0 {
		start = page
	}
	l, _ = Map(l, area(start, count, number>>10%mostFiles, number>>13%4))
	return l
}

// P16.1, P16.2: what the operations return for a right list is right, in long rows of operations on the same list.
func TestRows(t *testing.T) {
	for seed := range 100 {
		var l []api.Area
		number := seed
		for range 300 {
			number = (number*1103515245 + 12345) & 0x7fffffff
			before := slices.Clone(l)
			l = step(l, number>>4)
			if _, ok := modelSpace(l); !ok {
				t.Fatalf("%v became %v", before, l)
			}
			expectAll(t, l, []int{number >> 3 % 64, number >> 9 % 8})
			expectMap(t, l, area(number>>5%64, 1+number>>11%4, number>>14%8, number>>17%5))
		}
	}
}

// shows returns what a page shows, as an area of this page alone.
func shows(l []api.Area, page int) api.Area {
	a, ok := Find(l, page)
	if !ok {
		return api.Area{}
	}
	return api.Area{Start: page, Count: 1, File: a.File, Page: a.Page + page - a.Start, Write: a.Write}
}

// Consequences: a page that is not unmapped shows what it showed before, and may be written to as before; one that is unmapped shows nothing.
func TestUnmapKeepsOthers(t *testing.T) {
	for _, l := range right() {
		for start := range mostAddress {
			for _, count := range []int{1, 2, 3, 7, 8, 20, 64} {
				left, err := Unmap(l, start, count)
				if err != api.OK {
					continue
				}
				for page := range mostAddress {
					want := shows(l, page)
					if page >= start && page < start+count {
						want = api.Area{}
					}
					if got := shows(left, page); got != want {
						t.Fatalf("Unmap of %d pages from %d on of %v: the page %d shows %v, want %v", count, start, l, page, got, want)
					}
					if want.Count == 1 && !slices.Contains(Shown(left, want.File, want.Page), page) {
						t.Fatalf("Unmap of %d pages from %d on of %v: the page %d does not show the page %d", count, start, l, page, want.Page)
					}
				}
			}
		}
	}
}

// Consequences: Room finds a place where Map succeeds, if there are fewer than MaxAreas areas; one page before it Map does not succeed.
func TestRoomHasRoom(t *testing.T) {
	for _, l := range right() {
		for count := 1; count <= mostPages; count++ {
			page, ok := Room(l, count)
			if !ok {
				continue
			}
			want := api.OK
			if len(l) >= mostAreas {
				want = api.ErrFull
			}
			if _, err := Map(l, area(page, count, 0, 0)); err != want {
				t.Errorf("Map of %d pages at %d into %v: %d, want %d", count, page, l, err, want)
			}
			for before := range page {
				if _, err := Map(l, area(before, count, 0, 0)); err != api.ErrExists {
					t.Errorf("Map of %d pages at %d into %v: %d", count, before, l, err)
				}
			}
		}
	}
}
