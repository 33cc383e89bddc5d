package lru

import (
	"math"
	"slices"
	"testing"

	"pagecache/api"
)

// P8.3: who moves where, by hand.
func TestBalanceCases(t *testing.T) {
	for _, c := range []struct{ l, want api.Lru }{
		{api.Lru{}, api.Lru{}},
		{api.Lru{Active: []int{1}}, api.Lru{Inactive: []int{1}}},
		{api.Lru{Active: []int{1}, Inactive: []int{2}}, api.Lru{Active: []int{1}, Inactive: []int{2}}},
		{api.Lru{Active: []int{1, 2}, Inactive: []int{3}}, api.Lru{Active: []int{1}, Inactive: []int{2, 3}}},
		{api.Lru{Active: []int{1, 2}, Inactive: []int{3, 4}, Ref: []int{2}}, api.Lru{Active: []int{1, 2}, Inactive: []int{3, 4}, Ref: []int{2}}},
		{api.Lru{Active: []int{1}, Inactive: []int{3, 4, 5}, Ref: []int{1}}, api.Lru{Active: []int{1}, Inactive: []int{3, 4, 5}, Ref: []int{1}}},
		{api.Lru{Active: []int{1, 2, 3, 4}}, api.Lru{Active: []int{1, 2}, Inactive: []int{3, 4}}},
		{api.Lru{Active: []int{1, 2, 3, 4, 5}}, api.Lru{Active: []int{1, 2}, Inactive: []int{3, 4, 5}}},
		{api.Lru{Active: []int{1, 2, 3, 4}, Inactive: []int{9}, Ref: []int{9}}, api.Lru{Active: []int{1, 2}, Inactive: []int{3, 4, 9}, Ref: []int{9}}},
		{api.Lru{Active: []int{1, 2, 3, 4}, Ref: []int{4}}, api.Lru{Active: []int{4, 1}, Inactive: []int{2, 3}}},
		{api.Lru{Active: []int{1, 2, 3, 4}, Ref: []int{1, 3}}, api.Lru{Active: []int{3, 1}, Inactive: []int{2, 4}, Ref: []int{1}}},
		{api.Lru{Active: []int{1, 2, 3, 4}, Ref: []int{2, 3, 4}}, api.Lru{Active: []int{2, 3, 4}, Inactive: []int{1}}}, // four turns, though Active is still longer
		{api.Lru{Active: []int{1, 2, 3, 4}, Ref: []int{1, 2, 3, 4}}, api.Lru{Active: []int{1, 2, 3, 4}}},               // no frame has two turns
		{api.Lru{Active: []int{1}, Ref: []int{1}}, api.Lru{Active: []int{1}}},
		{api.Lru{Active: []int{1, 2}, Inactive: []int{5}, Ref: []int{1, 2, 5}}, api.Lru{Active: []int{1, 2}, Inactive: []int{5}, Ref: []int{5}}},
	} {
		if got := Balance(c.l); !same(got, c.want) {
			t.Errorf("%+v: %+v, want %+v", c.l, got, c.want)
		}
	}
}

// P8.3: all lists of a few frames.
func TestBalanceAll(t *testing.T) {
	for _, l := range append(listsOf(20, 1, 64, 3), listsOf(1, 2, 3, 4, 5)...) {
		expectBalance(t, l)
	}
}

// P8.4: who is a victim, and who moves, by hand.
func TestScanCases(t *testing.T) {
	l := api.Lru{Active: []int{8}, Inactive: []int{1, 2, 3, 4, 5}, Ref: []int{2, 4, 8}}
	all := api.Lru{Inactive: []int{1, 2, 3}, Ref: []int{1, 2, 3}}
	for _, c := range []struct {
		l       api.Lru
		n       int
		held    []int
		want    api.Lru
		victims []int
	}{
		{l, 1, nil, l, []int{5}}, // the ones ahead of it are not looked at
		{l, 2, nil, api.Lru{Active: []int{8}, Inactive: []int{4, 1, 2, 3, 5}, Ref: []int{2, 8}}, []int{5, 3}},
		{l, 3, nil, api.Lru{Active: []int{8}, Inactive: []int{2, 4, 1, 3, 5}, Ref: []int{8}}, []int{5, 3, 1}},
		{l, 4, nil, api.Lru{Active: []int{8}, Inactive: []int{2, 4, 1, 3, 5}, Ref: []int{8}}, []int{5, 3, 1}}, // 2 and 4 are not looked at again
		{l, math.MaxInt, nil, api.Lru{Active: []int{8}, Inactive: []int{2, 4, 1, 3, 5}, Ref: []int{8}}, []int{5, 3, 1}},
		{l, 1, []int{5}, api.Lru{Active: []int{8}, Inactive: []int{4, 1, 2, 3, 5}, Ref: []int{2, 8}}, []int{3}},
		{l, 2, []int{4, 3}, api.Lru{Active: []int{8}, Inactive: []int{2, 1, 3, 4, 5}, Ref: []int{4, 8}}, []int{5, 1}}, // 4 is held: it stays, and is still referenced
		{l, 9, []int{1, 2, 3, 4, 5}, l, nil},
		{l, 9, []int{5, 5, 4, 4, 3, 3, 2, 2, 1, 1}, l, nil},
		{l, 1, []int{8, 0, -5, 65, math.MinInt, math.MaxInt, 1<<32 + 5}, l, []int{5}}, // held, but not inactive
		{l, 1, []int{}, l, []int{5}},
		{all, 1, nil, api.Lru{Inactive: []int{1, 2, 3}}, nil}, // all were moved, and are in the old order
		{all, 3, []int{2}, api.Lru{Inactive: []int{1, 3, 2}, Ref: []int{2}}, nil},
		{api.Lru{}, 1, nil, api.Lru{}, nil},
		{api.Lru{Active: []int{1, 2}}, 2, nil, api.Lru{Active: []int{1, 2}}, nil}, // active frames are no victims
	} {
		if got, victims := Scan(c.l, c.n, c.held); !same(got, c.want) || !slices.Equal(victims, c.victims) {
			t.Errorf("%+v, %d, %v: %+v %v, want %+v %v", c.l, c.n, c.held, got, victims, c.want, c.victims)
		}
	}
}

// P8.4: all lists of a few frames, with all numbers of victims and all held frames.
func TestScanAll(t *testing.T) {
	for _, l := range listsOf(20, 1, 64, 3) {
		for _, held := range parts([]int{1, 3, 20, 64}) {
			for n := -1; n < 6; n++ {
				expectScan(t, l, n, held)
			}
		}
	}
}

// P8.4: no victims are asked for, and the lists are as they are.
func TestScanNone(t *testing.T) {
	l := api.Lru{Active: []int{8}, Inactive: []int{1, 2}, Ref: []int{2, 8}}
	for _, n := range []int{0, -1, -64, math.MinInt} {
		if got, victims := Scan(l, n, []int{1}); !same(got, l) || len(victims) > 0 {
			t.Errorf("%d: %+v %v", n, got, victims)
		}
	}
}

// P8.3 and P8.4: lists that are not right are as they are.
func TestNotRight(t *testing.T) {
	for _, l := range badLists() {
		if got := Balance(l); !same(got, l) {
			t.Errorf("Balance of %+v: %+v", l, got)
		}
		for _, n := range []int{1, 64, 0, -1, math.MinInt, math.MaxInt} {
			if got, victims := Scan(l, n, []int{1}); !same(got, l) || len(victims) > 0 {
				t.Errorf("Scan of %+v for %d: %+v %v", l, n, got, victims)
			}
		}
	}
}

// The consequence: a frame that is touched between two scans is no victim of the second one, whatever else is touched, and whatever the first one moved.
func TestTouchedBetweenScans(t *testing.T) {
	for _, l := range append(listsOf(20, 1, 64), listsOf(1, 2, 3, 4)...) {
		for n := 1; n < 5; n++ {
			first, _ := Scan(l, n, l.Inactive[:len(l.Inactive)/2])
			for _, f := range append(slices.Clone(l.Active), l.Inactive...) {
				next, err := Touch(first, f)
				for _, g := range append(slices.Clone(l.Inactive), l.Active...) {
					other, again := Touch(next, g)
					for count := 1; count < 5; count++ {
						_, victims := Scan(other, count, nil)
						if err != api.OK || again != api.OK || slices.Contains(victims, f) || slices.Contains(victims, g) {
							t.Fatalf("%+v, %d and %d are touched: %v", l, f, g, victims)
						}
					}
				}
			}
		}
	}
}

// The consequence: the frames of the lists are the same behind Touch, Balance and Scan.
func TestFramesStay(t *testing.T) {
	for _, l := range listsOf(20, 1, 64, 3) {
		want := frames(l)
		results := []api.Lru{Balance(l)}
		for n := range 6 {
			next, victims := Scan(l, n, []int{3})
			results = append(results, next)
			for _, f := range victims {
				if !slices.Contains(next.Inactive, f) {
					t.Fatalf("Scan of %+v for %d: the victim %d has left", l, n, f)
				}
			}
		}
		for f := range 66 {
			next, _ := Touch(l, f)
			results = append(results, next)
		}
		for _, got := range results {
			if !slices.Equal(frames(got), want) {
				t.Fatalf("%+v became %+v", l, got)
			}
		}
	}
}

// frames are the frames of both lists, ascending.
func frames(l api.Lru) []int {
	return slices.Sorted(slices.Values(append(slices.Clone(l.Active), l.Inactive...)))
}
