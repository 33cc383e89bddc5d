package zone

import (
	"math"
	"slices"
	"testing"

	"pagecache/api"
)

// farNumbers are numbers that are no frames, and no zones.
var farNumbers = []int{-1, -2, -64, 65, 66, 128, 1<<32 + 1, -1 << 32, math.MaxInt, math.MaxInt - 1, math.MinInt, math.MinInt + 1}

// mustNew returns zones of these sizes.
func mustNew(t *testing.T, sizes ...int) []api.Zone {
	t.Helper()
	l, err := New(sizes)
	if err != api.OK {
		t.Fatalf("New of %v: %d", sizes, int(err))
	}
	return l
}

// takeAll takes frames until there are none, and returns them in their order, and what is left.
func takeAll(t *testing.T, l []api.Zone, prefer int, urgent bool) ([]int, []api.Zone) {
	t.Helper()
	var taken []int
	for range most + 1 {
		next, frame, err := Take(l, prefer, urgent)
		if err != api.OK {
			if err != api.ErrFull || frame != 0 || !same(next, l) {
				t.Fatalf("Take of %+v: %+v %d %d", l, next, frame, int(err))
			}
			return taken, l
		}
		taken, l = append(taken, frame), next
	}
	t.Fatalf("more than all frames were taken: %v", taken)
	return nil, nil
}

// Example 1.
func TestExample(t *testing.T) {
	l := mustNew(t, 8, 8)
	taken, left := takeAll(t, l, 1, false)
	if !slices.Equal(taken, append(row(9, 15), row(1, 7)...)) || !same(left, []api.Zone{{First: 1, Size: 8, Min: 1, Low: 2, High: 4, Free: []int{8}}, {First: 9, Size: 8, Min: 1, Low: 2, High: 4, Free: []int{16}}}) {
		t.Errorf("%v were taken, and %+v is left", taken, left)
	}
	last, left := takeAll(t, left, 1, true)
	if !slices.Equal(last, []int{16, 8}) || Free(left) != 0 {
		t.Errorf("%v were urgent, and %+v is left", last, left)
	}
}

// P10.2: frames that are taken, by hand: no zone above prefer, what Min keeps back, and what is urgent.
func TestTakeCases(t *testing.T) {
	l := []api.Zone{
		{First: 1, Size: 4, Min: 1, Low: 2, High: 2, Free: []int{2, 4}},
		{First: 5, Size: 3, Min: 1, Low: 1, High: 1, Free: []int{6}},
		{First: 8, Size: 2, Low: 1, High: 2},
		{First: 10, Size: 2, Low: 1, High: 2, Free: []int{11}},
	}
	with := func(zone int, free ...int) []api.Zone {
		next := slices.Clone(l)
		next[zone].Free = free
		return next
	}
	for _, c := range []struct {
		prefer int
		urgent bool
		want   []api.Zone
		frame  int
		err    api.Errno
	}{
		{0, false, with(0, 4), 2, api.OK},
		{0, true, with(0, 4), 2, api.OK},
		{1, false, with(0, 4), 2, api.OK},
		{1, true, with(1), 6, api.OK},
		{2, false, with(0, 4), 2, api.OK},
		{2, true, with(1), 6, api.OK},
		{3, false, with(3), 11, api.OK},
		{3, true, with(3), 11, api.OK},
		{4, false, l, 0, api.ErrRange},
		{-1, true, l, 0, api.ErrRange},
	} {
		if next, frame, err := Take(l, c.prefer, c.urgent); !same(next, c.want) || frame != c.frame || err != c.err {
			t.Errorf("from %d, urgent %v: %+v %d %d, want %+v %d %d", c.prefer, c.urgent, next, frame, int(err), c.want, c.frame, int(c.err))
		}
	}
	kept := []api.Zone{{First: 1, Size: 2, Min: 2, Low: 2, High: 2, Free: []int{1, 2}}, {First: 3, Size: 2}, {First: 5, Size: 1, Free: []int{5}}}
	for prefer := range 2 {
		if next, frame, err := Take(kept, prefer, false); !same(next, kept) || frame != 0 || err != api.ErrFull {
			t.Errorf("from %d: %+v %d %d", prefer, next, frame, int(err))
		}
	}
}

// P10.2: frames that are given, by hand: at the front, in the middle, at the end, as the only one, and to other zones.
func TestGiveCases(t *testing.T) {
	l := []api.Zone{{First: 1, Size: 6, Free: []int{2, 5}}, {First: 7, Size: 2}, {First: 9, Size: 1, Free: []int{9}}}
	with := func(zone int, free ...int) []api.Zone {
		next := slices.Clone(l)
		next[zone].Free = free
		return next
	}
	for _, c := range []struct {
		frame int
		want  []api.Zone
		err   api.Errno
	}{
		{1, with(0, 1, 2, 5), api.OK},
		{2, l, api.ErrExists},
		{3, with(0, 2, 3, 5), api.OK},
		{4, with(0, 2, 4, 5), api.OK},
		{5, l, api.ErrExists},
		{6, with(0, 2, 5, 6), api.OK},
		{7, with(1, 7), api.OK},
		{8, with(1, 8), api.OK},
		{9, l, api.ErrExists},
		{10, l, api.ErrRange},
		{0, l, api.ErrRange},
		{64, l, api.ErrRange},
	} {
		if next, err := Give(l, c.frame); !same(next, c.want) || err != c.err {
			t.Errorf("%d: %+v %d, want %+v %d", c.frame, next, int(err), c.want, int(c.err))
		}
	}
}

// P10.2 and P10.3: all right zones of a few frames, with all zones to prefer, and all frames, and ones that do not exist.
func TestAllZones(t *testing.T) {
	for _, sizes := range fewSizes {
		frames := 0
		for _, size := range sizes {
			frames += size
		}
		for _, l := range zonesOf(sizes...) {
			for prefer := -1; prefer <= len(sizes); prefer++ {
				expectTake(t, l, prefer, false)
				expectTake(t, l, prefer, true)
			}
			for frame := 0; frame <= frames+1; frame++ {
				expectGive(t, l, frame)
			}
			expectCounts(t, l)
		}
	}
}

// P10.2: zones and frames that are far from those that there are.
func TestFarNumbers(t *testing.T) {
	for _, l := range [][]api.Zone{right(), mustNew(t, 64), ones(64), mustNew(t, 8, 8), {{First: 1, Size: 64}}} {
		for _, n := range farNumbers {
			expectTake(t, l, n, false)
			expectTake(t, l, n, true)
			expectGive(t, l, n)
		}
		for n := -1; n <= 65; n++ {
			expectTake(t, l, n, false)
			expectTake(t, l, n, true)
			expectGive(t, l, n)
		}
	}
}

// P10.1 to P10.3: what zones that are not right lead to, ahead of all that is wrong with a zone or a frame, and the zones as they are.
func TestNotRight(t *testing.T) {
	for _, l := range badZones() {
		for _, n := range append([]int{0, 1, 2, 5, 7, 10, 11, 64}, farNumbers...) {
			for _, urgent := range []bool{false, true} {
				if next, frame, err := Take(l, n, urgent); !same(next, l) || frame != 0 || err != api.ErrInvalid {
					t.Errorf("Take of %+v from %d: %+v %d %d", l, n, next, frame, int(err))
				}
			}
			if next, err := Give(l, n); !same(next, l) || err != api.ErrInvalid {
				t.Errorf("Give of %d to %+v: %+v %d", n, l, next, int(err))
			}
		}
		if Free(l) != 0 || Low(l) || Want(l) != 0 {
			t.Errorf("%+v: %d free, low %v, wanted %d", l, Free(l), Low(l), Want(l))
		}
	}
}

// P10.3: zones by hand: watermarks that are just reached are no lack, and what one zone has more than enough does not help another one.
func TestCountCases(t *testing.T) {
	for i, c := range []struct {
		l    []api.Zone
		free int
		low  bool
		want int
	}{
		{[]api.Zone{{First: 1, Size: 8, Min: 1, Low: 2, High: 4, Free: row(1, 8)}}, 8, false, 0},
		{[]api.Zone{{First: 1, Size: 8, Min: 1, Low: 2, High: 4, Free: row(2, 5)}}, 4, false, 0},
		{[]api.Zone{{First: 1, Size: 8, Min: 1, Low: 2, High: 4, Free: row(6, 8)}}, 3, false, 1},
		{[]api.Zone{{First: 1, Size: 8, Min: 1, Low: 2, High: 4, Free: []int{1, 8}}}, 2, false, 2},
		{[]api.Zone{{First: 1, Size: 8, Min: 1, Low: 2, High: 4, Free: []int{8}}}, 1, true, 3},
		{[]api.Zone{{First: 1, Size: 8, Min: 1, Low: 2, High: 4}}, 0, true, 4},
		{[]api.Zone{{First: 1, Size: 8}}, 0, false, 0},
		{[]api.Zone{{First: 1, Size: 8, Min: 1, Low: 2, High: 4, Free: row(1, 8)}, {First: 9, Size: 4, Low: 1, High: 2}}, 8, true, 2},
		{[]api.Zone{{First: 1, Size: 4, Low: 1, High: 3}, {First: 5, Size: 8, Min: 1, Low: 2, High: 4, Free: row(5, 12)}}, 8, true, 3},
		{[]api.Zone{{First: 1, Size: 4, Low: 1, High: 3}, {First: 5, Size: 8, Min: 1, Low: 2, High: 4, Free: []int{7}}, {First: 13, Size: 2, Low: 1, High: 1, Free: []int{14}}}, 2, true, 6},
		{[]api.Zone{{First: 1, Size: 64, Min: 64, Low: 64, High: 64, Free: row(1, 63)}}, 63, true, 1},
		{[]api.Zone{{First: 1, Size: 64, Min: 64, Low: 64, High: 64, Free: row(1, 64)}}, 64, false, 0},
	} {
		if Free(c.l) != c.free || Low(c.l) != c.low || Want(c.l) != c.want {
			t.Errorf("%d: %d free, low %v, wanted %d; want %d, %v, %d", i, Free(c.l), Low(c.l), Want(c.l), c.free, c.low, c.want)
		}
	}
}

// withRoom returns zones whose lists have room behind them, and all of the memory behind them.
func withRoom(l []api.Zone) ([]api.Zone, [][]int) {
	zones := append(slices.Clone(l), api.Zone{First: -7}, api.Zone{First: -8})
	var rooms [][]int
	for i := range zones {
		room := append(slices.Clone(zones[i].Free), 3, 9, 4, 6, 8, 11)
		rooms = append(rooms, room)
		zones[i].Free = room[:len(zones[i].Free)]
	}
	return zones, rooms
}

// R2: the arguments stay as they are, even where their slices have room behind them, and results share no memory with them, nor with each other.
func TestArguments(t *testing.T) {
	good := append(zonesOf(2, 3), right(), ones(64), mustNew(t, 64), mustNew(t, 8, 8))
	for _, l := range append(badZones(), good...) {
		for i, do := range []func(l []api.Zone) []api.Zone{
			func(l []api.Zone) []api.Zone { next, _, _ := Take(l, 0, true); return next },
			func(l []api.Zone) []api.Zone { next, _, _ := Take(l, 1, false); return next },
			func(l []api.Zone) []api.Zone { next, _, _ := Take(l, 64, true); return next },
			func(l []api.Zone) []api.Zone { next, _ := Give(l, 1); return next },
			func(l []api.Zone) []api.Zone { next, _ := Give(l, 4); return next },
			func(l []api.Zone) []api.Zone { next, _ := Give(l, 65); return next },
			func(l []api.Zone) []api.Zone { Check(l); Free(l); Low(l); Want(l); return nil },
		} {
			zones, rooms := withRoom(l)
			want, wantRooms := withRoom(l)
			spoil(t, do(zones[:len(l)]))
			if !same(zones, want) || !slices.EqualFunc(rooms, wantRooms, slices.Equal) {
				t.Fatalf("function %d of %+v: the argument became %+v", i, l, zones)
			}
		}
	}
}

// spoil overwrites all memory of a result, and tells whether parts of it share some.
func spoil(t *testing.T, l []api.Zone) {
	t.Helper()
	l = l[:cap(l)]
	for i := range l {
		free := l[i].Free[:cap(l[i].Free)]
		for k := range free {
			free[k] = -100 - i
		}
	}
	for i := range l {
		for _, f := range l[i].Free[:cap(l[i].Free)] {
			if f != -100-i {
				t.Fatal("parts of a result share memory")
			}
		}
		l[i].First = -100
	}
}

// R2: the sizes stay as they are, and the zones share no memory.
func TestNewArguments(t *testing.T) {
	for _, sizes := range [][]int{{8, 8}, {1, 2, 3}, {64}, {64, 1}, slices.Repeat([]int{1}, 64)} {
		kept := slices.Clone(sizes)
		first, _ := New(sizes)
		spoil(t, first)
		second, err := New(sizes)
		if !slices.Equal(sizes, kept) || err == api.OK && !Check(second) {
			t.Errorf("New of %v: %v, then %+v", kept, sizes, second)
		}
	}
}
