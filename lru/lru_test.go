package lru

import (
	"math"
	"math/rand"
	"slices"
	"testing"

	"pagecache/api"
)

// noFrames are numbers that no frame has.
var noFrames = []int{0, -1, -64, 65, 66, 128, 1<<32 + 1, math.MinInt, math.MaxInt}

// row has the frames from to to, ascending.
func row(from, to int) []int {
	var l []int
	for f := from; f <= to; f++ {
		l = append(l, f)
	}
	return l
}

// badLists are lists that are not right, each for one reason, in all of the three lists.
func badLists() []api.Lru {
	l := []api.Lru{
		{Active: []int{2, 2}}, {Inactive: []int{2, 2}}, {Active: []int{2, 3, 2}}, {Inactive: []int{3, 2, 4, 2}},
		{Active: []int{2}, Inactive: []int{2}}, {Active: []int{5, 2}, Inactive: []int{2, 6}}, {Active: []int{1, 64}, Inactive: []int{2, 64}},
		{Ref: []int{2}}, {Active: []int{2}, Ref: []int{3}}, {Inactive: []int{2}, Ref: []int{1, 2}}, {Inactive: []int{2}, Ref: []int{2, 3}},
		{Active: []int{2}, Ref: []int{2, 2}}, {Inactive: []int{2}, Ref: []int{2, 2}}, {Active: []int{2}, Inactive: []int{3}, Ref: []int{2, 3, 3}},
		{Active: []int{2, 3}, Ref: []int{3, 2}}, {Inactive: []int{3, 2}, Ref: []int{3, 2}}, {Active: []int{1, 4}, Inactive: []int{3, 2}, Ref: []int{1, 3, 2, 4}},
		{Active: row(1, 64), Inactive: []int{1}}, {Active: row(0, 63)}, {Inactive: row(2, 65)}, {Inactive: append(row(1, 64), row(1, 64)...)},
		{Active: row(1, 64), Ref: append(row(1, 64), 64)}, {Active: row(1, 64), Ref: append(row(1, 63), 63)}, {Active: row(1, 64), Ref: row(1, 65)}, {Inactive: row(1, 64), Ref: row(0, 64)},
	}
	for _, f := range noFrames {
		l = append(l, api.Lru{Active: []int{f}}, api.Lru{Inactive: []int{f}}, api.Lru{Active: []int{1, f}, Inactive: []int{2}}, api.Lru{Active: []int{1}, Inactive: []int{f, 2}},
			api.Lru{Active: []int{1, 2}, Ref: []int{f}}, api.Lru{Inactive: []int{1, 2}, Ref: []int{1, f}}, api.Lru{Active: []int{f}, Ref: []int{f}}, api.Lru{Inactive: []int{1, f}, Ref: []int{f}})
	}
	return l
}

// P8.1: right lists, among them empty and full ones, and ones that are not right.
func TestCheckCases(t *testing.T) {
	for _, l := range []api.Lru{
		{}, {Active: []int{}, Inactive: []int{}, Ref: []int{}}, {Active: []int{1}}, {Inactive: []int{64}}, {Active: []int{64, 1}, Inactive: []int{2, 63}},
		{Active: []int{9}, Ref: []int{9}}, {Inactive: []int{9}, Ref: []int{9}}, {Active: []int{9, 2}, Inactive: []int{7, 1}, Ref: []int{1, 2, 7, 9}}, {Active: []int{9, 2}, Inactive: []int{7, 1}, Ref: []int{2, 7}},
		{Active: row(1, 64), Ref: row(1, 64)}, {Inactive: row(1, 64), Ref: row(1, 64)}, {Active: row(33, 64), Inactive: row(1, 32), Ref: row(20, 40)},
	} {
		if !Check(l) {
			t.Errorf("%+v is right", l)
		}
	}
	for _, l := range badLists() {
		if Check(l) {
			t.Errorf("%+v is not right", l)
		}
	}
}

// modelRight is the chapter's definition of right lists: it counts how often each number is there.
func modelRight(l api.Lru) bool {
	times := map[int]int{}
	for _, f := range append(slices.Clone(l.Active), l.Inactive...) {
		times[f]++
	}
	for f, n := range times {
		if f < 1 || f > most || n > 1 {
			return false
		}
	}
	for i, f := range l.Ref {
		if times[f] == 0 || i > 0 && l.Ref[i-1] >= f {
			return false
		}
	}
	return true
}

// P8.1: all lists of up to two numbers in and beside the limits.
func TestCheckAll(t *testing.T) {
	few := [][]int{nil}
	for _, a := range []int{0, 1, 2, 64, 65} {
		few = append(few, []int{a})
		for _, b := range []int{0, 1, 2, 64, 65} {
			few = append(few, []int{a, b})
		}
	}
	right := 0
	for _, active := range few {
		for _, inactive := range few {
			for _, ref := range few {
				l := api.Lru{Active: active, Inactive: inactive, Ref: ref}
				want := modelRight(l)
				if Check(l) != want {
					t.Fatalf("%+v: not %v", l, want)
				}
				if want {
					right++
				}
			}
		}
	}
	if right == 0 {
		t.Error("none was right")
	}
}

// Example 1.
func TestExample(t *testing.T) {
	var l api.Lru
	var err api.Errno
	for _, f := range []int{1, 2, 3} {
		if l, err = Add(l, f, false); err != api.OK {
			t.Fatal(err)
		}
	}
	if !same(l, api.Lru{Inactive: []int{3, 2, 1}}) {
		t.Fatalf("%+v", l)
	}
	if l, err = Touch(l, 1); err != api.OK || !same(l, api.Lru{Inactive: []int{3, 2, 1}, Ref: []int{1}}) {
		t.Fatalf("%+v %v", l, err)
	}
	l, victims := Scan(l, 1, nil)
	if !slices.Equal(victims, []int{2}) || !same(l, api.Lru{Inactive: []int{1, 3, 2}}) {
		t.Errorf("%v %+v", victims, l)
	}
}

// P8.1 and P8.2: what one frame does to lists, by hand.
func TestFrameCases(t *testing.T) {
	l := api.Lru{Active: []int{9, 2, 64}, Inactive: []int{7, 1}, Ref: []int{1, 2}}
	add := func(f int, active bool) (api.Lru, api.Errno) { return Add(l, f, active) }
	for i, c := range []struct {
		do   func() (api.Lru, api.Errno)
		want api.Lru
		err  api.Errno
	}{
		{func() (api.Lru, api.Errno) { return add(5, false) }, api.Lru{Active: []int{9, 2, 64}, Inactive: []int{5, 7, 1}, Ref: []int{1, 2}}, api.OK},
		{func() (api.Lru, api.Errno) { return add(5, true) }, api.Lru{Active: []int{5, 9, 2, 64}, Inactive: []int{7, 1}, Ref: []int{1, 2}}, api.OK},
		{func() (api.Lru, api.Errno) { return add(9, false) }, l, api.ErrExists},
		{func() (api.Lru, api.Errno) { return add(1, true) }, l, api.ErrExists},
		{func() (api.Lru, api.Errno) { return Remove(l, 2) }, api.Lru{Active: []int{9, 64}, Inactive: []int{7, 1}, Ref: []int{1}}, api.OK},
		{func() (api.Lru, api.Errno) { return Remove(l, 64) }, api.Lru{Active: []int{9, 2}, Inactive: []int{7, 1}, Ref: []int{1, 2}}, api.OK},
		{func() (api.Lru, api.Errno) { return Remove(l, 1) }, api.Lru{Active: []int{9, 2, 64}, Inactive: []int{7}, Ref: []int{2}}, api.OK},
		{func() (api.Lru, api.Errno) { return Remove(l, 7) }, api.Lru{Active: []int{9, 2, 64}, Inactive: []int{1}, Ref: []int{1, 2}}, api.OK},
		{func() (api.Lru, api.Errno) { return Remove(l, 5) }, l, api.ErrUnknown},
		{func() (api.Lru, api.Errno) { return Touch(l, 64) }, api.Lru{Active: []int{9, 2, 64}, Inactive: []int{7, 1}, Ref: []int{1, 2, 64}}, api.OK},
		{func() (api.Lru, api.Errno) { return Touch(l, 7) }, api.Lru{Active: []int{9, 2, 64}, Inactive: []int{7, 1}, Ref: []int{1, 2, 7}}, api.OK},
		{func() (api.Lru, api.Errno) { return Touch(l, 1) }, api.Lru{Active: []int{1, 9, 2, 64}, Inactive: []int{7}, Ref: []int{2}}, api.OK},
		{func() (api.Lru, api.Errno) { return Touch(l, 2) }, l, api.OK},
		{func() (api.Lru, api.Errno) { return Touch(l, 5) }, l, api.ErrUnknown},
	} {
		if got, err := c.do(); !same(got, c.want) || err != c.err {
			t.Errorf("%d: %+v %d, want %+v %d", i, got, int(err), c.want, int(c.err))
		}
	}
}

// P8.1 and P8.2: lists that are not right and frames that do not exist, in this order, and the lists as they are.
func TestFrameErrors(t *testing.T) {
	some := api.Lru{Active: []int{3}, Inactive: []int{4, 5}, Ref: []int{3, 5}}
	for _, l := range append(badLists(), api.Lru{}, some, api.Lru{Active: row(1, 64)}) {
		want := api.ErrInvalid
		if modelRight(l) {
			want = api.ErrRange
		}
		frames := noFrames
		if want == api.ErrInvalid {
			frames = append(slices.Clone(noFrames), 1, 2, 3, 17, 64)
		}
		for _, f := range frames {
			for i, do := range []func() (api.Lru, api.Errno){
				func() (api.Lru, api.Errno) { return Add(l, f, false) },
				func() (api.Lru, api.Errno) { return Add(l, f, true) },
				func() (api.Lru, api.Errno) { return Remove(l, f) },
				func() (api.Lru, api.Errno) { return Touch(l, f) },
			} {
				if got, err := do(); !same(got, l) || err != want {
					t.Errorf("function %d, %d of %+v: %+v %d, want %d", i, f, l, got, int(err), int(want))
				}
			}
		}
	}
}

// P8.1 and P8.2: all lists of a few frames, with frames that are in them and ones that are not.
func TestFrameAll(t *testing.T) {
	for _, l := range listsOf(20, 1, 64, 3) {
		for _, f := range []int{1, 2, 3, 20, 63, 64, 0, 65, -1} {
			expectFrame(t, l, f)
		}
	}
}

// The consequence: a frame that is touched twice while it is inactive becomes active.
func TestTouchedTwice(t *testing.T) {
	for _, l := range listsOf(20, 1, 64, 3) {
		for _, f := range l.Inactive {
			once, err := Touch(l, f)
			twice, again := Touch(once, f)
			if err != api.OK || again != api.OK || slices.Contains(twice.Inactive, f) || len(twice.Active) == 0 || twice.Active[0] != f {
				t.Fatalf("%d of %+v: %+v, then %+v", f, l, once, twice)
			}
		}
	}
}

// R2: the arguments stay as they are, even where their slices have room behind them, and results share no memory with them, nor with each other.
func TestArguments(t *testing.T) {
	behind := []int{5, 9, 20, 1, 2, 3, 4, 20}
	for _, l := range append(badLists(), listsOf(5, 9, 20)...) {
		for i, do := range []func(l api.Lru, held []int) (api.Lru, []int){
			func(l api.Lru, _ []int) (api.Lru, []int) { got, _ := Add(l, 30, false); return got, nil },
			func(l api.Lru, _ []int) (api.Lru, []int) { got, _ := Add(l, 30, true); return got, nil },
			func(l api.Lru, _ []int) (api.Lru, []int) { got, _ := Remove(l, 9); return got, nil },
			func(l api.Lru, _ []int) (api.Lru, []int) { got, _ := Touch(l, 9); return got, nil },
			func(l api.Lru, _ []int) (api.Lru, []int) { got, _ := Touch(l, 40); return got, nil },
			func(l api.Lru, _ []int) (api.Lru, []int) { return Balance(l), nil },
			func(l api.Lru, held []int) (api.Lru, []int) { return Scan(l, 2, held) },
			func(l api.Lru, held []int) (api.Lru, []int) { return Scan(l, 0, held) },
		} {
			var rooms [4][]int
			for k, part := range [][]int{l.Active, l.Inactive, l.Ref, {5, 64}} {
				rooms[k] = append(slices.Clone(part), behind...)
			}
			kept := [4][]int{slices.Clone(rooms[0]), slices.Clone(rooms[1]), slices.Clone(rooms[2]), slices.Clone(rooms[3])}
			arg := api.Lru{Active: rooms[0][:len(l.Active)], Inactive: rooms[1][:len(l.Inactive)], Ref: rooms[2][:len(l.Ref)]}
			got, victims := do(arg, rooms[3][:2])
			for from, part := range [][]int{got.Active, got.Inactive, got.Ref, victims} {
				part = part[:cap(part)]
				for at := range part {
					part[at] = -100 - from
				}
			}
			for from, part := range [][]int{got.Active, got.Inactive, got.Ref, victims} {
				for _, n := range part {
					if n != -100-from {
						t.Fatalf("function %d of %+v: parts of the result share memory", i, l)
					}
				}
			}
			for k := range rooms {
				if !slices.Equal(rooms[k], kept[k]) {
					t.Fatalf("function %d of %+v: the argument became %v, %v", i, l, rooms[k], kept[k])
				}
			}
		}
	}
}

// All functions in long rows, beginning with no frames, or with all of them in one list.
func TestRows(t *testing.T) {
	r := rand.New(rand.NewSource(8))
	for _, width := range []int{3, 8, 20, 64} {
		all := row(1, width)
		for _, l := range slices.Repeat([]api.Lru{{}, {Inactive: all}, {Active: all, Ref: all}}, 10) {
			for range 120 {
				f := 1 + r.Intn(width)
				held := r.Perm(width)[:r.Intn(width)]
				n := r.Intn(width + 2)
				expectFrame(t, l, f)
				expectBalance(t, l)
				expectScan(t, l, n, held)
				switch r.Intn(8) {
				case 0, 1, 2:
					l, _ = Add(l, f, r.Intn(2) == 0)
				case 3:
					l, _ = Remove(l, f)
				case 4, 5:
					l, _ = Touch(l, f)
				case 6:
					l = Balance(l)
				default:
					l, _ = Scan(l, n, held)
				}
			}
		}
	}
}
