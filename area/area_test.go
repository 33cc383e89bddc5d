package area

import (
	"math"
	"slices"
	"testing"

	"pagecache/api"
)

// Example 1.
func TestExample(t *testing.T) {
	l, err := Map(nil, api.Area{Start: 1, Count: 4, File: 2})
	if err != api.OK {
		t.Fatal(err)
	}
	want := []api.Area{{Start: 1, Count: 1, File: 2}, {Start: 3, Count: 2, File: 2, Page: 2}}
	if l, err = Unmap(l, 2, 1); err != api.OK || !slices.Equal(l, want) {
		t.Errorf("%v and %d, want %v", l, err, want)
	}
}

// P16.1: right lists, and ones that are not right.
func TestCheckCases(t *testing.T) {
	for _, l := range right() {
		if !Check(l) {
			t.Errorf("%v is right", l)
		}
	}
	for _, l := range badLists() {
		if Check(l) {
			t.Errorf("%v is not right", l)
		}
	}
}

// mapCase is a call of Map, written down by hand; want is nil if the list stays as it is.
type mapCase struct {
	l    []api.Area
	a    api.Area
	want []api.Area
	err  api.Errno
}

func expectMaps(t *testing.T, cases ...mapCase) {
	t.Helper()
	for _, c := range cases {
		want := c.want
		if want == nil {
			want = c.l
		}
		expectChange(t, "Map", c.l, want, c.err, func(l []api.Area) ([]api.Area, api.Errno) { return Map(l, c.a) })
	}
}

// P16.1: Map adds an area in front of all, between two and behind all, also right beside another one, and never makes one of two.
func TestMapCases(t *testing.T) {
	expectMaps(t,
		mapCase{nil, area(0, 1, 0, 0), areas(0, 1, 0, 0), api.OK}, mapCase{[]api.Area{}, area(63, 1, 7, 7), areas(63, 1, 7, 7), api.OK}, mapCase{nil, area(56, 8, 7, 0), areas(56, 8, 7, 0), api.OK}, mapCase{nil, area(0, 8, 0, 0), areas(0, 8, 0, 0), api.OK},
		mapCase{areas(4, 3, 5, 5), area(1, 3, 5, 2), areas(1, 3, 5, 2, 4, 3, 5, 5), api.OK}, mapCase{areas(4, 3, 5, 0), area(7, 3, 5, 3), areas(4, 3, 5, 0, 7, 3, 5, 3), api.OK}, mapCase{areas(4, 3, 5, 5), area(20, 1, 0, 0), areas(4, 3, 5, 5, 20, 1, 0, 0), api.OK},
		mapCase{areas(0, 2, 1, 1, 4, 1, 1, 1), area(2, 2, 1, 1), areas(0, 2, 1, 1, 2, 2, 1, 1, 4, 1, 1, 1), api.OK}, mapCase{areas(0, 2, 1, 1, 4, 1, 1, 1), area(3, 1, 1, 1), areas(0, 2, 1, 1, 3, 1, 1, 1, 4, 1, 1, 1), api.OK},
		mapCase{right()[12], area(2, 1, 0, 2), append(areas(0, 2, 0, 0, 2, 1, 0, 2), right()[12][1:]...), api.OK}, mapCase{right()[12], area(20, 8, 0, 0), append(right()[12], area(20, 8, 0, 0)), api.OK},
	)
}

// P16.1: the errors of Map, and each of them ahead of those that come behind it.
func TestMapErrors(t *testing.T) {
	bad, full := areas(1, 4, 2, 0, 4, 1, 2, 0), right()[14]
	expectMaps(t,
		mapCase{bad, area(20, 1, 0, 0), nil, api.ErrInvalid}, mapCase{bad, api.Area{}, nil, api.ErrInvalid}, mapCase{bad, area(1, 1, 0, 0), nil, api.ErrInvalid}, mapCase{make([]api.Area, 9), area(1, 1, 0, 0), nil, api.ErrInvalid},
		mapCase{nil, api.Area{}, nil, api.ErrRange}, mapCase{nil, area(0, 9, 0, 0), nil, api.ErrRange}, mapCase{areas(4, 3, 5, 5), area(4, 3, 8, 5), nil, api.ErrRange}, mapCase{areas(4, 3, 5, 5), area(4, 0, 5, 5), nil, api.ErrRange}, mapCase{full, area(0, 1, -1, 0), nil, api.ErrRange}, mapCase{full, area(63, 2, 0, 0), nil, api.ErrRange}, mapCase{full, area(0, 2, 0, 7), nil, api.ErrRange},
		mapCase{areas(4, 3, 5, 5), area(4, 3, 5, 5), nil, api.ErrExists}, mapCase{areas(4, 3, 5, 5), area(2, 3, 0, 0), nil, api.ErrExists}, mapCase{areas(4, 3, 5, 5), area(6, 1, 0, 0), nil, api.ErrExists}, mapCase{areas(4, 3, 5, 5), area(5, 1, 0, 0), nil, api.ErrExists}, mapCase{areas(4, 3, 5, 5), area(3, 5, 0, 0), nil, api.ErrExists}, mapCase{areas(0, 2, 1, 1, 4, 1, 1, 1), area(1, 3, 0, 0), nil, api.ErrExists}, mapCase{areas(0, 2, 1, 1, 4, 1, 1, 1), area(3, 2, 0, 0), nil, api.ErrExists}, mapCase{full, area(0, 2, 0, 0), nil, api.ErrExists}, mapCase{full, area(62, 2, 0, 0), nil, api.ErrExists}, mapCase{right()[13], area(63, 1, 0, 0), nil, api.ErrExists},
		mapCase{full, area(0, 1, 0, 0), nil, api.ErrFull}, mapCase{full, area(28, 5, 0, 0), nil, api.ErrFull}, mapCase{full, area(63, 1, 7, 7), nil, api.ErrFull}, mapCase{right()[15], area(4, 8, 0, 0), nil, api.ErrFull},
	)
}

// unmapCase is a call of Unmap, written down by hand; want is nil if the list stays as it is.
type unmapCase struct {
	l            []api.Area
	start, count int
	want         []api.Area
	err          api.Errno
}

func expectUnmaps(t *testing.T, cases ...unmapCase) {
	t.Helper()
	for _, c := range cases {
		want := c.want
		if want == nil {
			want = c.l
		}
		expectChange(t, "Unmap", c.l, want, c.err, func(l []api.Area) ([]api.Area, api.Errno) { return Unmap(l, c.start, c.count) })
	}
}

// part returns the area of a list that a part of it was made from, with another start, count and page.
func part(a api.Area, start, count, page int) api.Area {
	return api.Area{Start: start, Count: count, File: a.File, Page: page, Write: a.Write}
}

// P16.2: Unmap removes whole areas, their beginnings, their ends and their middles, of one area and of several. It may remove nothing.
func TestUnmapCases(t *testing.T) {
	for _, write := range []bool{false, true} {
		a, b := api.Area{Start: 10, Count: 5, File: 2, Page: 3, Write: write}, api.Area{Start: 15, Count: 4, File: 7, Page: 1, Write: !write}
		one, two := []api.Area{a}, []api.Area{a, b}
		expectUnmaps(t,
			unmapCase{nil, 0, 1, nil, api.OK}, unmapCase{nil, 0, 64, nil, api.OK}, unmapCase{[]api.Area{}, 63, 1, nil, api.OK},
			unmapCase{one, 10, 5, []api.Area{}, api.OK}, unmapCase{one, 0, 64, []api.Area{}, api.OK}, unmapCase{one, 9, 7, []api.Area{}, api.OK}, unmapCase{two, 10, 9, []api.Area{}, api.OK},
			unmapCase{one, 9, 1, nil, api.OK}, unmapCase{one, 0, 10, nil, api.OK}, unmapCase{one, 15, 1, nil, api.OK}, unmapCase{one, 15, 49, nil, api.OK}, unmapCase{two, 19, 45, nil, api.OK}, unmapCase{two, 63, 1, nil, api.OK},
			unmapCase{one, 10, 1, []api.Area{part(a, 11, 4, 4)}, api.OK}, unmapCase{one, 5, 9, []api.Area{part(a, 14, 1, 7)}, api.OK}, unmapCase{one, 0, 12, []api.Area{part(a, 12, 3, 5)}, api.OK},
			unmapCase{one, 14, 1, []api.Area{part(a, 10, 4, 3)}, api.OK}, unmapCase{one, 11, 53, []api.Area{part(a, 10, 1, 3)}, api.OK}, unmapCase{one, 12, 3, []api.Area{part(a, 10, 2, 3)}, api.OK},
			unmapCase{one, 11, 3, []api.Area{part(a, 10, 1, 3), part(a, 14, 1, 7)}, api.OK}, unmapCase{one, 12, 1, []api.Area{part(a, 10, 2, 3), part(a, 13, 2, 6)}, api.OK},
			unmapCase{two, 14, 2, []api.Area{part(a, 10, 4, 3), part(b, 16, 3, 2)}, api.OK}, unmapCase{two, 10, 5, []api.Area{b}, api.OK}, unmapCase{two, 15, 4, []api.Area{a}, api.OK}, unmapCase{two, 9, 7, []api.Area{part(b, 16, 3, 2)}, api.OK}, unmapCase{two, 14, 50, []api.Area{part(a, 10, 4, 3)}, api.OK}, unmapCase{two, 16, 2, []api.Area{a, part(b, 15, 1, 1), part(b, 18, 1, 4)}, api.OK}, unmapCase{two, 11, 1, []api.Area{part(a, 10, 1, 3), part(a, 12, 3, 5), b}, api.OK},
		)
	}
}

// P16.2: the errors of Unmap. There may be MaxAreas areas, and not one more; a list that is full has room as long as no area becomes two.
func TestUnmapErrors(t *testing.T) {
	bad, seven, full := areas(1, 4, 2, 0, 4, 1, 2, 0), right()[14][:7], right()[14]
	expectUnmaps(t,
		unmapCase{bad, 1, 1, nil, api.ErrInvalid}, unmapCase{bad, -1, 1, nil, api.ErrInvalid}, unmapCase{bad, 1, 0, nil, api.ErrInvalid}, unmapCase{make([]api.Area, 9), 1, 1, nil, api.ErrInvalid}, unmapCase{append(right()[15], area(63, 1, 0, 0)), 62, 2, nil, api.ErrInvalid},
		unmapCase{nil, -1, 1, nil, api.ErrRange}, unmapCase{nil, -1, 3, nil, api.ErrRange}, unmapCase{nil, 0, 0, nil, api.ErrRange}, unmapCase{nil, 5, -1, nil, api.ErrRange}, unmapCase{nil, 64, 1, nil, api.ErrRange}, unmapCase{nil, 64, 0, nil, api.ErrRange}, unmapCase{nil, 63, 2, nil, api.ErrRange}, unmapCase{nil, 0, 65, nil, api.ErrRange}, unmapCase{nil, 1, 64, nil, api.ErrRange},
		unmapCase{full, 1, math.MaxInt, nil, api.ErrRange}, unmapCase{full, math.MaxInt, 1, nil, api.ErrRange}, unmapCase{full, math.MaxInt, math.MinInt, nil, api.ErrRange}, unmapCase{full, math.MinInt, math.MaxInt, nil, api.ErrRange}, unmapCase{full, math.MinInt, math.MinInt, nil, api.ErrRange}, unmapCase{full, 3, -1, nil, api.ErrRange},
		unmapCase{full, 2, 1, nil, api.ErrFull}, unmapCase{full, 2, 4, nil, api.ErrFull}, unmapCase{full, 26, 1, nil, api.ErrFull}, unmapCase{full, 61, 1, nil, api.ErrFull}, unmapCase{right()[13], 57, 6, nil, api.ErrFull},
		unmapCase{full, 1, 1, append([]api.Area{part(full[0], 2, 5, 2)}, full[1:]...), api.OK}, unmapCase{full, 6, 3, append([]api.Area{part(full[0], 1, 5, 1)}, full[1:]...), api.OK}, unmapCase{full, 62, 2, append(slices.Clone(full[:7]), part(full[7], 57, 5, 1)), api.OK}, unmapCase{full, 6, 4, append([]api.Area{part(full[0], 1, 5, 1), part(full[1], 10, 5, 3)}, full[2:]...), api.OK}, unmapCase{full, 2, 13, append([]api.Area{part(full[0], 1, 1, 1)}, full[2:]...), api.OK}, unmapCase{full, 7, 2, nil, api.OK},
		unmapCase{seven, 2, 1, append([]api.Area{part(full[0], 1, 1, 1), part(full[0], 3, 4, 3)}, full[1:7]...), api.OK},
	)
}

// P16.3: Find returns the area from its first page to its last one.
func TestFindCases(t *testing.T) {
	l := areas(0, 2, 1, 1, 4, 8, 1, 0, 12, 1, 2, 7, 63, 1, 7, 7)
	for page, want := range map[int]int{0: 0, 1: 0, 4: 1, 5: 1, 11: 1, 12: 2, 63: 3} {
		if a, ok := Find(l, page); a != l[want] || !ok {
			t.Errorf("the page %d: %v and %v, want %v", page, a, ok, l[want])
		}
	}
	for _, page := range append([]int{2, 3, 13, 40, 62}, farNumbers...) {
		if a, ok := Find(l, page); a != (api.Area{}) || ok {
			t.Errorf("the page %d: %v and %v, want none", page, a, ok)
		}
	}
	if a, ok := Find(areas(1, 4, 2, 0, 4, 1, 2, 0), 1); a != (api.Area{}) || ok {
		t.Errorf("%v and %v in a list that is not right", a, ok)
	}
}

// roomCase is a call of Room, written down by hand.
type roomCase struct {
	l     []api.Area
	count int
	want  int
	ok    bool
}

// P16.3: Room returns the first page of the first gap that is long enough: in front of all, between two, and behind all.
func TestRoomCases(t *testing.T) {
	gaps := areas(1, 1, 0, 0, 4, 1, 0, 0, 8, 1, 0, 0, 60, 1, 0, 0)
	for _, c := range []roomCase{
		{nil, 1, 0, true}, {nil, 64, 0, true}, {nil, 65, 0, false}, {nil, 0, 0, false}, {nil, -1, 0, false}, {[]api.Area{}, 64, 0, true}, {nil, math.MaxInt, 0, false}, {nil, math.MinInt, 0, false},
		{gaps, 1, 0, true}, {gaps, 2, 2, true}, {gaps, 3, 5, true}, {gaps, 4, 9, true}, {gaps, 51, 9, true}, {gaps, 52, 0, false}, {gaps, 0, 0, false}, {gaps, -5, 0, false}, {gaps, math.MaxInt, 0, false}, {gaps, math.MinInt, 0, false},
		{areas(0, 1, 0, 0), 63, 1, true}, {areas(0, 1, 0, 0), 64, 0, false}, {areas(63, 1, 0, 0), 63, 0, true}, {areas(63, 1, 0, 0), 64, 0, false}, {areas(0, 8, 0, 0, 8, 8, 0, 0), 1, 16, true}, {areas(0, 8, 0, 0, 8, 8, 0, 0), 48, 16, true}, {areas(0, 8, 0, 0, 8, 8, 0, 0), 49, 0, false},
		{right()[13], 1, 0, false}, {right()[13], 0, 0, false}, {right()[15], 56, 4, true}, {right()[15], 57, 0, false}, {right()[14], 5, 28, true}, {right()[14], 2, 7, true}, {right()[14], 6, 0, false},
		{areas(1, 4, 2, 0, 4, 1, 2, 0), 1, 0, false}, {make([]api.Area, 9), 1, 0, false},
	} {
		if page, ok := Room(c.l, c.count); page != c.want || ok != c.ok {
			t.Errorf("%d pages in %v: %d and %v, want %d and %v", c.count, c.l, page, ok, c.want, c.ok)
		}
	}
}

// P16.3: Shown returns each page that shows a page of a file, also if they are in several areas.
func TestShownCases(t *testing.T) {
	l := areas(0, 2, 1, 1, 4, 8, 1, 0, 12, 1, 2, 7, 20, 3, 1, 2, 63, 1, 1, 7)
	for _, c := range []struct {
		file, page int
		want       []int
	}{
		{1, 0, []int{4}}, {1, 1, []int{0, 5}}, {1, 2, []int{1, 6, 20}}, {1, 3, []int{7, 21}}, {1, 4, []int{8, 22}}, {1, 5, []int{9}}, {1, 7, []int{11, 63}}, {2, 7, []int{12}},
		{2, 6, nil}, {2, 0, nil}, {0, 0, nil}, {7, 7, nil}, {1, 8, nil}, {2, 8, nil}, {1, -1, nil}, {8, 0, nil}, {-1, 0, nil}, {1, math.MaxInt, nil}, {1, math.MinInt, nil}, {math.MaxInt, 1, nil}, {1 + 1<<32, 1, nil},
	} {
		if got := Shown(l, c.file, c.page); !slices.Equal(got, c.want) {
			t.Errorf("the page %d of the file %d: %v, want %v", c.page, c.file, got, c.want)
		}
	}
	if got := Shown(areas(1, 4, 2, 0, 4, 1, 2, 0), 2, 0); len(got) != 0 {
		t.Errorf("%v in a list that is not right", got)
	}
}
