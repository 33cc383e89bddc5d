package zone

import (
	"math"
	"slices"
	"testing"

	"pagecache/api"
)

// badSizes are numbers that no size is.
var badSizes = []int{0, -1, -2, -64, 65, 66, 128, 1<<32 + 1, -1 << 32, math.MaxInt, math.MaxInt - 1, math.MinInt, math.MinInt + 1}

// ones returns n zones of one frame each.
func ones(n int) []api.Zone {
	var l []api.Zone
	for i := range n {
		l = append(l, api.Zone{First: 1 + i, Size: 1, High: 1, Free: []int{1 + i}})
	}
	return l
}

// right returns two right zones, where some frames of each are taken.
func right() []api.Zone {
	return []api.Zone{{First: 1, Size: 4, Min: 1, Low: 2, High: 3, Free: []int{2, 3}}, {First: 5, Size: 6, Min: 0, Low: 1, High: 2, Free: []int{5, 7, 10}}}
}

// changed returns the right zones with one change.
func changed(change func(l []api.Zone)) []api.Zone {
	l := right()
	change(l)
	return l
}

// badZones are zones that are not right, each for one reason.
func badZones() [][]api.Zone {
	l := [][]api.Zone{
		nil, {}, {{}}, {{First: 1}},
		ones(65), append(ones(64), api.Zone{First: 65}), slices.Repeat(ones(1), 2), ones(3)[1:],
		{{First: 1, Size: 64}, {First: 65, Size: 1}}, {{First: 1, Size: 32}, {First: 33, Size: 33}}, {{First: 1, Size: 1}, {First: 2, Size: 64}},
		{{First: 1, Size: 30}, {First: 31, Size: 30}, {First: 61, Size: 5}},
	}
	for i := range right() {
		z := right()[i]
		last := z.First + z.Size - 1
		for _, n := range []int{0, -1, z.First - 1, z.First + 1, -z.First, 11, 64, 65, math.MaxInt, math.MinInt} {
			l = append(l, changed(func(l []api.Zone) { l[i].First = n }))
		}
		for _, n := range badSizes {
			l = append(l, changed(func(l []api.Zone) { l[i].Size = n }))
		}
		for _, n := range []int{-1, -64, math.MinInt} {
			l = append(l, changed(func(l []api.Zone) { l[i].Min = n }),
				changed(func(l []api.Zone) { l[i].Min, l[i].Low, l[i].High = n, n, n }))
		}
		for _, n := range []int{z.Size + 1, 64, 65, math.MaxInt} {
			l = append(l, changed(func(l []api.Zone) { l[i].High = n }),
				changed(func(l []api.Zone) { l[i].Low, l[i].High = n, n }),
				changed(func(l []api.Zone) { l[i].Min, l[i].Low, l[i].High = n, n, n }))
		}
		l = append(l, changed(func(l []api.Zone) { l[i].Min = z.Low + 1 }), changed(func(l []api.Zone) { l[i].Low = z.High + 1 }),
			changed(func(l []api.Zone) { l[i].Low = -1 }), changed(func(l []api.Zone) { l[i].High = -1 }),
			changed(func(l []api.Zone) { l[i].Min, l[i].High = z.High, z.Min }))
		for _, free := range [][]int{
			{z.First - 1}, {z.First - 1, z.First}, {last + 1}, {last, last + 1}, {z.First, z.First}, {z.First, last, last}, {last, z.First}, {z.First, last, z.First + 1},
			append(row(z.First, last), last), row(z.First, last+1), row(z.First-1, last), {0}, {-1}, {-z.First}, {65}, {math.MaxInt}, {math.MinInt}, {math.MinInt, z.First}, {z.First, math.MaxInt},
			slices.Repeat(row(z.First, last), 2),
		} {
			l = append(l, changed(func(l []api.Zone) { l[i].Free = free }))
		}
	}
	return append(l, changed(func(l []api.Zone) { l[0], l[1] = l[1], l[0] }), changed(func(l []api.Zone) { l[1] = l[0] }), changed(func(l []api.Zone) { l[0].Free, l[1].Free = l[1].Free, l[0].Free }))
}

// P10.1: right zones, from the least ones to the greatest ones, and ones that are not right.
func TestCheckCases(t *testing.T) {
	for _, l := range [][]api.Zone{
		right(), {{First: 1, Size: 1}}, {{First: 1, Size: 1, Min: 1, Low: 1, High: 1, Free: []int{1}}}, {{First: 1, Size: 64}},
		{{First: 1, Size: 64, Min: 64, Low: 64, High: 64, Free: row(1, 64)}}, {{First: 1, Size: 64, Free: []int{1, 64}}}, {{First: 1, Size: 3, Free: []int{}}},
		ones(1), ones(2), ones(64), {{First: 1, Size: 63}, {First: 64, Size: 1, Free: []int{64}}}, {{First: 1, Size: 1}, {First: 2, Size: 63, Low: 1, High: 63, Free: []int{2, 64}}},
		{{First: 1, Size: 30}, {First: 31, Size: 30, Free: []int{31, 60}}, {First: 61, Size: 4, Free: row(61, 64)}},
	} {
		if !Check(l) {
			t.Errorf("%+v are right", l)
		}
	}
	for _, l := range badZones() {
		if Check(l) {
			t.Errorf("%+v are not right", l)
		}
	}
}

// modelRight is the chapter's definition of right zones, for small numbers: it gives each frame an owner.
func modelRight(l []api.Zone) bool {
	var owners []int
	for i, z := range l {
		if z.Size < 1 || z.First != len(owners)+1 {
			return false
		}
		owners = append(owners, slices.Repeat([]int{i}, z.Size)...)
		before := 0
		for _, f := range z.Free {
			if f < 1 || f > len(owners) || owners[f-1] != i || f <= before {
				return false
			}
			before = f
		}
		if z.Min < 0 || z.Low < z.Min || z.High < z.Low || z.Size < z.High {
			return false
		}
	}
	return len(owners) >= 1 && len(owners) <= most
}

// P10.1: all single zones of small numbers, and behind a right zone.
func TestCheckAll(t *testing.T) {
	var frees [][]int
	for _, a := range []int{0, 1, 2, 3} {
		frees = append(frees, []int{a})
		for _, b := range []int{0, 1, 2, 3, 4} {
			frees = append(frees, []int{a, b}, []int{a, b, 3}, []int{a, b, 4})
		}
	}
	count := 0
	for _, free := range append(frees, nil) {
		for n := range 4 * 5 * 5 * 5 * 5 {
			z := api.Zone{First: n % 4, Size: n/4%5 - 1, Min: n/20%5 - 1, Low: n/100%5 - 1, High: n/500%5 - 1, Free: free}
			for _, l := range [][]api.Zone{{z}, {{First: 1, Size: 1}, z}, {{First: 1, Size: 2, High: 1}, z}, {z, {First: 3, Size: 1}}} {
				want := modelRight(l)
				if Check(l) != want {
					t.Fatalf("%+v: not %v", l, want)
				}
				if want {
					count++
				}
			}
		}
	}
	if count == 0 {
		t.Error("none was right")
	}
}

// P10.1: all right zones of a few frames.
func TestCheckRight(t *testing.T) {
	for _, sizes := range fewSizes {
		for _, l := range zonesOf(sizes...) {
			if !Check(l) {
				t.Fatalf("%+v are right", l)
			}
		}
	}
}

// P10.1: zones by hand, the first of them of example 1.
func TestNewCases(t *testing.T) {
	for _, c := range []struct {
		sizes []int
		want  []api.Zone
		err   api.Errno
	}{
		{[]int{8, 8}, []api.Zone{{First: 1, Size: 8, Min: 1, Low: 2, High: 4, Free: row(1, 8)}, {First: 9, Size: 8, Min: 1, Low: 2, High: 4, Free: row(9, 16)}}, api.OK},
		{[]int{1}, []api.Zone{{First: 1, Size: 1, Free: []int{1}}}, api.OK},
		{[]int{64}, []api.Zone{{First: 1, Size: 64, Min: 8, Low: 16, High: 32, Free: row(1, 64)}}, api.OK},
		{[]int{3, 7, 15}, []api.Zone{{First: 1, Size: 3, High: 1, Free: row(1, 3)}, {First: 4, Size: 7, Low: 1, High: 3, Free: row(4, 10)}, {First: 11, Size: 15, Min: 1, Low: 3, High: 7, Free: row(11, 25)}}, api.OK},
		{[]int{1, 63}, []api.Zone{{First: 1, Size: 1, Free: []int{1}}, {First: 2, Size: 63, Min: 7, Low: 15, High: 31, Free: row(2, 64)}}, api.OK},
		{nil, nil, api.ErrInvalid},
		{[]int{}, nil, api.ErrInvalid},
		{[]int{65}, nil, api.ErrRange},
		{[]int{0}, nil, api.ErrRange},
		{[]int{8, 0, 8}, nil, api.ErrRange},
		{[]int{32, 33}, nil, api.ErrRange},
		{[]int{64, 1}, nil, api.ErrRange},
		{[]int{64, -1}, nil, api.ErrRange},
		{[]int{-1, 64}, nil, api.ErrRange},
	} {
		if got, err := New(c.sizes); !same(got, c.want) || err != c.err {
			t.Errorf("New of %v: %+v %d, want %+v %d", c.sizes, got, int(err), c.want, int(c.err))
		}
	}
}

// expectNew compares New with what its zones have to be, frame by frame.
func expectNew(t *testing.T, sizes []int) {
	t.Helper()
	l, err := New(sizes)
	if err != api.OK || len(l) != len(sizes) || !Check(l) {
		t.Fatalf("New of %v: %+v %d", sizes, l, int(err))
	}
	frame := 0
	for i, z := range l {
		marks := [3]int{int(float64(sizes[i]) * 0.125), int(float64(sizes[i]) * 0.25), int(float64(sizes[i]) * 0.5)}
		if z.First != frame+1 || z.Size != sizes[i] || [3]int{z.Min, z.Low, z.High} != marks || len(z.Free) != z.Size {
			t.Fatalf("New of %v: %+v", sizes, l)
		}
		for _, f := range z.Free {
			if frame++; f != frame {
				t.Fatalf("New of %v: %+v", sizes, l)
			}
		}
	}
}

// P10.1: zones of all sizes, alone and in pairs, and many zones.
func TestNewAll(t *testing.T) {
	for a := 1; a <= most; a++ {
		expectNew(t, []int{a})
		for b := 1; b <= most; b++ {
			if a+b <= most {
				expectNew(t, []int{a, b})
				continue
			}
			if got, err := New([]int{a, b}); len(got) != 0 || err != api.ErrRange {
				t.Fatalf("New of %d and %d: %+v %d", a, b, got, int(err))
			}
		}
	}
	for n := 1; n <= most; n++ {
		expectNew(t, slices.Repeat([]int{1}, n))
		expectNew(t, slices.Repeat([]int{most / n}, n))
	}
	expectNew(t, []int{1, 2, 3, 4, 5, 6, 7, 8, 9, 10, 9})
}

// P10.1: sizes that are none, at each place, and sums that are too great, or that would be small again if they were numbers that overflow.
func TestNewErrors(t *testing.T) {
	bad := [][]int{
		slices.Repeat([]int{1}, 65), slices.Repeat([]int{1}, 100000), slices.Repeat([]int{64}, 1000), {32, 32, 1}, {63, 2}, {1, 64}, {64, 64}, {1, 2, 3, 4, 5, 6, 7, 8, 9, 10, 10},
		{math.MaxInt, math.MaxInt, 4}, {math.MinInt, math.MinInt, 8}, {1 << 62, 1 << 62, 1 << 62, 1 << 62}, {70, -10}, {-10, 70}, {8, math.MaxInt}, {64, math.MinInt, math.MinInt},
	}
	for _, n := range badSizes {
		bad = append(bad, []int{n}, []int{n, 8}, []int{8, n}, []int{8, n, 8}, []int{n, n}, []int{64, n})
	}
	for _, sizes := range bad {
		if got, err := New(sizes); len(got) != 0 || err != api.ErrRange {
			t.Errorf("New of %d sizes from %d on: %+v %d", len(sizes), sizes[0], got, int(err))
		}
	}
}
