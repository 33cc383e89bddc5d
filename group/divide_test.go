package group

import (
	"math"
	"math/rand"
	"slices"
	"testing"

	"pagecache/api"
)

// P11.3 by hand, beginning with example 1.
func TestDivideCases(t *testing.T) {
	example := []api.Group{{Limit: 16, Protect: 2, Charge: 8}, {Limit: 16, Protect: 2, Charge: 4}}
	same := slices.Repeat([]api.Group{{Limit: 8, Protect: 2, Charge: 4}}, 4)
	within := []api.Group{{Limit: 8, Protect: 8, Charge: 8}, {Limit: 8, Protect: 5, Charge: 6}, {Limit: 8, Protect: 3, Charge: 0}}
	for _, c := range []struct {
		l    []api.Group
		n    int
		want []int
	}{
		{example, 4, []int{4, 0}},
		{example, 5, []int{5, 0}},
		{example, 6, []int{5, 1}},
		{example, 7, []int{6, 1}},
		{example, 8, []int{6, 2}},
		{example, 9, []int{7, 2}},
		{example, 10, []int{7, 3}},
		{example, 11, []int{8, 3}},
		{example, 12, []int{8, 4}},
		{example, 13, []int{8, 4}},
		{example, math.MaxInt, []int{8, 4}},
		{example, 1, []int{1, 0}},
		{example, 0, []int{0, 0}},
		{example, -1, nil},
		{example, math.MinInt, nil},
		{same, 1, []int{1, 0, 0, 0}},
		{same, 2, []int{1, 1, 0, 0}},
		{same, 7, []int{2, 2, 2, 1}},
		{same, 8, []int{2, 2, 2, 2}},
		{same, 9, []int{3, 2, 2, 2}},
		{same, 14, []int{4, 4, 3, 3}},
		{same, 17, []int{4, 4, 4, 4}},
		{within, 1, []int{0, 1, 0}},
		{within, 2, []int{1, 1, 0}},
		{within, 4, []int{3, 1, 0}},
		{within, 5, []int{4, 1, 0}},
		{within, 6, []int{4, 2, 0}},
		{within, 14, []int{8, 6, 0}},
		{within, 64, []int{8, 6, 0}},
		{[]api.Group{{Limit: 1, Charge: 64}}, 64, []int{64}},
		{[]api.Group{{Limit: 1, Charge: 64}}, 65, []int{64}},
		{[]api.Group{{Limit: 1}}, 9, []int{0}},
		{slices.Repeat([]api.Group{{Limit: 64, Protect: 64, Charge: 64}}, 4), 256, []int{64, 64, 64, 64}},
		{slices.Repeat([]api.Group{{Limit: 64, Protect: 64, Charge: 64}}, 4), 1 << 40, []int{64, 64, 64, 64}},
		{nil, 1, nil},
		{[]api.Group{{Limit: 4, Protect: 5, Charge: 4}}, 1, nil},
	} {
		if got := Divide(c.l, c.n); !slices.Equal(got, c.want) {
			t.Errorf("%d among %+v: %v, want %v", c.n, c.l, got, c.want)
		}
	}
}

// sum returns the sum of numbers.
func sum(l []int) int {
	total := 0
	for _, n := range l {
		total += n
	}
	return total
}

// charges returns the charges of groups.
func charges(l []api.Group) []int {
	var all []int
	for _, g := range l {
		all = append(all, g.Charge)
	}
	return all
}

// reclaimed returns what is left of groups when what Divide says was taken.
func reclaimed(t *testing.T, l []api.Group, taken []int) []api.Group {
	t.Helper()
	next := l
	for i, n := range taken {
		var err api.Errno
		if next, err = Uncharge(next, i, n); err != api.OK {
			t.Fatalf("%v can't be taken from %+v: %d", taken, l, int(err))
		}
	}
	return next
}

// expectFair expects the consequences of a division.
func expectFair(t *testing.T, l []api.Group, n int) {
	t.Helper()
	taken := Divide(l, n)
	if len(taken) != len(l) || sum(taken) != min(n, sum(charges(l))) {
		t.Fatalf("%d among %+v: %v", n, l, taken)
	}
	left := reclaimed(t, l, taken)
	for i := range l {
		intoProtection := taken[i] > Excess(l[i])
		for k := range left {
			if intoProtection && Excess(left[k]) > 0 {
				t.Fatalf("%d among %+v: %v, but group %d has an excess", n, l, taken, k)
			}
			if taken[i] > 0 && !intoProtection && Excess(left[k]) > Excess(left[i])+1 {
				t.Fatalf("%d among %+v: %v, and the excesses of %d and %d are far apart", n, l, taken, i, k)
			}
			if intoProtection && left[k].Charge > left[i].Charge+1 {
				t.Fatalf("%d among %+v: %v, and the charges of %d and %d are far apart", n, l, taken, i, k)
			}
		}
	}
}

// P11.3 and the consequences: all right groups of a few frames with all numbers; the limits play no part.
func TestDivideAll(t *testing.T) {
	few := slices.DeleteFunc(groupsOf(3, 4), func(g api.Group) bool { return g.Limit != max(g.Protect, 1) })
	fewer := slices.DeleteFunc(groupsOf(2, 3), func(g api.Group) bool { return g.Limit != 2 })
	lists := append(listsOf(groupsOf(3, 5), 1), listsOf(groupsOf(3, 5), 2)...)
	for _, l := range slices.Concat(lists, listsOf(few, 3), listsOf(fewer, 4)) {
		expectDivide(t, l, -1)
		total := sum(charges(l))
		for n := 0; n <= total+1; n++ {
			expectDivide(t, l, n)
			expectFair(t, l, n)
		}
	}
}

// P11.3 and the consequences: groups with up to all frames.
func TestDivideLong(t *testing.T) {
	r := rand.New(rand.NewSource(12))
	for range 400 {
		var l []api.Group
		for range 1 + r.Intn(mostTenants) {
			limit := 1 + r.Intn(mostFrames)
			l = append(l, api.Group{Limit: limit, Protect: r.Intn(limit + 1), Charge: r.Intn(mostFrames + 1)})
		}
		for n := 0; n <= 4*mostFrames+1; n++ {
			expectDivide(t, l, n)
			expectFair(t, l, n)
		}
	}
}

// P11.3: one after the other: a frame more is one more of one group, so that no group has less taken from it when more is wanted.
func TestDivideGrows(t *testing.T) {
	for _, l := range listsOf(groupsOf(2, 4), 3) {
		before := Divide(l, 0)
		for n := 1; n <= sum(charges(l)); n++ {
			taken, more := Divide(l, n), 0
			for i := range taken {
				more += max(taken[i]-before[i], before[i]-taken[i])
			}
			if more != 1 || sum(taken) != n {
				t.Fatalf("%+v: %v of %d, but %v of %d", l, before, n-1, taken, n)
			}
			before = taken
		}
	}
}
