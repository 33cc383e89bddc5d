package group

import (
	"cmp"
	"math"
	"slices"
	"testing"

	"pagecache/api"
)

// mostFrames and mostTenants are limits, as the document says them.
const (
	mostFrames  = 64
	mostTenants = 4
)

// farNumbers are numbers that are no tenants, and no numbers of frames.
var farNumbers = []int{-1, -2, -64, 65, 66, 128, 1<<32 + 1, -1 << 32, math.MaxInt, math.MaxInt - 1, math.MinInt, math.MinInt + 1}

// right returns right groups, one of them within its protection and one above its limit.
func right() []api.Group {
	return []api.Group{{Limit: 10, Protect: 2, Charge: 8}, {Limit: 6, Protect: 4, Charge: 3}, {Limit: 5, Protect: 0, Charge: 9}}
}

// groupsOf returns all groups with a Limit up to limit and a Charge up to charge that are right.
func groupsOf(limit, charge int) []api.Group {
	var l []api.Group
	for most := 1; most <= limit; most++ {
		for protect := 0; protect <= most; protect++ {
			for c := 0; c <= charge; c++ {
				l = append(l, api.Group{Limit: most, Protect: protect, Charge: c})
			}
		}
	}
	return l
}

// listsOf returns all lists of n of these groups.
func listsOf(groups []api.Group, n int) [][]api.Group {
	all := [][]api.Group{nil}
	for range n {
		var next [][]api.Group
		for _, l := range all {
			for _, g := range groups {
				next = append(next, append(slices.Clone(l), g))
			}
		}
		all = next
	}
	return all
}

// modelRight is the chapter's definition of right groups: each number is looked for among those that it can be.
func modelRight(l []api.Group) bool {
	for _, g := range l {
		limits, protects, charges := 0, 0, 0
		for n := 0; n <= mostFrames; n++ {
			if g.Limit == n && n > 0 {
				limits++
			}
			if g.Protect == n && n <= g.Limit {
				protects++
			}
			if g.Charge == n {
				charges++
			}
		}
		if limits+protects+charges < 3 {
			return false
		}
	}
	return len(l) == 1 || len(l) == 2 || len(l) == 3 || len(l) == mostTenants
}

// modelCharge charges frame by frame; take is true if they are taken away.
func modelCharge(l []api.Group, t, n int, take bool) ([]api.Group, api.Errno) {
	if !modelRight(l) {
		return l, api.ErrInvalid
	}
	if t < 0 || t > len(l)-1 || n < 0 || n > mostFrames {
		return nil, api.ErrRange
	}
	next := slices.Clone(l)
	for range n {
		if take {
			next[t].Charge--
		} else {
			next[t].Charge++
		}
	}
	if take && next[t].Charge < 0 {
		return nil, api.ErrUnknown
	}
	if !take && next[t].Charge > next[t].Limit {
		return nil, api.ErrFull
	}
	return next, api.OK
}

// modelOver counts the frames above the limit one by one.
func modelOver(l []api.Group, t, n int) int {
	if !modelRight(l) || t < 0 || t > len(l)-1 || n < 0 || n > mostFrames {
		return 0
	}
	count := 0
	for frame := 1; frame <= l[t].Charge+n; frame++ {
		if frame > l[t].Limit {
			count++
		}
	}
	return count
}

// frame is one that a group may lose: those that are excess go first, and of each kind the ones of which the group has more left, this one included.
type frame struct {
	group  int
	needed bool
	left   int
}

// framesOf returns all frames of right groups, in the order in which they are reclaimed.
func framesOf(l []api.Group) []frame {
	var all []frame
	for i, g := range l {
		for nth := 1; nth <= g.Charge; nth++ { // the nth frame is taken when the group has nth left
			if nth > g.Protect {
				all = append(all, frame{i, false, nth - g.Protect})
			} else {
				all = append(all, frame{i, true, nth})
			}
		}
	}
	slices.SortFunc(all, func(a, b frame) int {
		if a.needed != b.needed {
			if b.needed {
				return -1
			}
			return 1
		}
		return cmp.Or(cmp.Compare(b.left, a.left), cmp.Compare(a.group, b.group))
	})
	return all
}

// modelDivide takes the first n of all frames in their order.
func modelDivide(l []api.Group, n int) []int {
	if !modelRight(l) || n < 0 {
		return nil
	}
	counts := make([]int, len(l))
	for i, f := range framesOf(l) {
		if i < n {
			counts[f.group]++
		}
	}
	return counts
}

// expectCharges compares Charge, Uncharge and Over with the model.
func expectCharges(t *testing.T, l []api.Group, tenant, n int) {
	t.Helper()
	want, wantErr := modelCharge(l, tenant, n, false)
	if got, err := Charge(l, tenant, n); !slices.Equal(got, want) || err != wantErr {
		t.Fatalf("Charge of %d to tenant %d of %+v: %+v %d, want %+v %d", n, tenant, l, got, int(err), want, int(wantErr))
	}
	want, wantErr = modelCharge(l, tenant, n, true)
	if got, err := Uncharge(l, tenant, n); !slices.Equal(got, want) || err != wantErr {
		t.Fatalf("Uncharge of %d from tenant %d of %+v: %+v %d, want %+v %d", n, tenant, l, got, int(err), want, int(wantErr))
	}
	if got, want := Over(l, tenant, n), modelOver(l, tenant, n); got != want {
		t.Fatalf("Over of %d for tenant %d of %+v: %d, want %d", n, tenant, l, got, want)
	}
}

// expectDivide compares Divide with the model.
func expectDivide(t *testing.T, l []api.Group, n int) {
	t.Helper()
	if got, want := Divide(l, n), modelDivide(l, n); !slices.Equal(got, want) {
		t.Fatalf("Divide of %d among %+v: %v, want %v", n, l, got, want)
	}
}
