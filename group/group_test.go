package group

import (
	"math"
	"math/rand"
	"slices"
	"testing"

	"pagecache/api"
)

// changedGroup returns the right groups with one change to one of them.
func changedGroup(i int, change func(g *api.Group)) []api.Group {
	l := right()
	change(&l[i])
	return l
}

// badGroups are groups that are not right, each for one reason.
func badGroups() [][]api.Group {
	one := api.Group{Limit: 1}
	l := [][]api.Group{nil, {}, {{}}, slices.Repeat([]api.Group{one}, 5), slices.Repeat([]api.Group{one}, 6), slices.Repeat([]api.Group{one}, 1000), {one, one, one, {}}, {{}, one, one, one}}
	for i, g := range right() {
		for _, n := range append([]int{0, g.Protect - 1}, farNumbers...) {
			if n != g.Limit && (n < 1 || n < g.Protect || n > 64) {
				l = append(l, changedGroup(i, func(g *api.Group) { g.Limit = n }))
			}
		}
		for _, n := range append([]int{g.Limit + 1, 64}, farNumbers...) {
			l = append(l, changedGroup(i, func(g *api.Group) { g.Protect = n }))
		}
		for _, n := range farNumbers {
			l = append(l, changedGroup(i, func(g *api.Group) { g.Charge = n }),
				changedGroup(i, func(g *api.Group) { g.Limit, g.Protect = n, n }),
				changedGroup(i, func(g *api.Group) { g.Limit, g.Protect, g.Charge = n, n, n }))
		}
	}
	return l
}

// P11.1: right groups, from the least ones to the greatest ones, and ones that are not right.
func TestCheckCases(t *testing.T) {
	for _, l := range [][]api.Group{
		right(), {{Limit: 1}}, {{Limit: 1, Protect: 1}}, {{Limit: 1, Protect: 1, Charge: 1}}, {{Limit: 64, Protect: 64, Charge: 64}}, {{Limit: 64}},
		{{Limit: 1, Charge: 64}}, {{Limit: 1, Protect: 1, Charge: 64}}, {{Limit: 8, Protect: 3, Charge: 9}}, {{Limit: 1}, {Limit: 2}},
		slices.Repeat([]api.Group{{Limit: 64, Protect: 64, Charge: 64}}, 4), slices.Repeat([]api.Group{{Limit: 1}}, 4), append(right(), api.Group{Limit: 7, Protect: 7}),
	} {
		if !Check(l) {
			t.Errorf("%+v are right", l)
		}
	}
	for _, l := range badGroups() {
		if Check(l) {
			t.Errorf("%+v are not right", l)
		}
	}
}

// P11.1: all single groups of numbers at and beside the edges, alone and among right ones.
func TestCheckAll(t *testing.T) {
	numbers := append([]int{0, 1, 2, 3, 31, 32, 33, 62, 63, 64}, farNumbers...)
	count := 0
	for _, limit := range numbers {
		for _, protect := range numbers {
			for _, charge := range numbers {
				g := api.Group{Limit: limit, Protect: protect, Charge: charge}
				for _, l := range [][]api.Group{{g}, append(right(), g), append([]api.Group{g}, right()...), {{Limit: 1}, g}, append(append(right(), g), right()...)} {
					want := modelRight(l)
					if Check(l) != want {
						t.Fatalf("%+v: not %v", l, want)
					}
					if want {
						count++
					}
				}
			}
		}
	}
	if count == 0 {
		t.Error("none was right")
	}
}

// P11.1: charges by hand: up to the limit, down to nothing, and each error ahead of those behind it.
func TestChargeCases(t *testing.T) {
	l := right()
	with := func(i, charge int) []api.Group {
		return changedGroup(i, func(g *api.Group) { g.Charge = charge })
	}
	wrong := []api.Group{{Limit: 0}}
	for i, c := range []struct {
		do   func(l []api.Group, t, n int) ([]api.Group, api.Errno)
		l    []api.Group
		t, n int
		want []api.Group
		err  api.Errno
	}{
		{Charge, l, 0, 1, with(0, 9), api.OK},
		{Charge, l, 0, 2, with(0, 10), api.OK},
		{Charge, l, 0, 3, nil, api.ErrFull},
		{Charge, l, 0, 64, nil, api.ErrFull},
		{Charge, l, 0, 65, nil, api.ErrRange},
		{Charge, l, 0, 0, l, api.OK},
		{Charge, l, 0, -1, nil, api.ErrRange},
		{Charge, l, 1, 3, with(1, 6), api.OK},
		{Charge, l, 1, 4, nil, api.ErrFull},
		{Charge, l, 2, 0, nil, api.ErrFull},
		{Charge, l, 2, 1, nil, api.ErrFull},
		{Charge, l, 3, 1, nil, api.ErrRange},
		{Charge, l, 3, 0, nil, api.ErrRange},
		{Charge, l, 4, 64, nil, api.ErrRange},
		{Charge, l, -1, 1, nil, api.ErrRange},
		{Charge, []api.Group{{Limit: 64}}, 0, 64, []api.Group{{Limit: 64, Charge: 64}}, api.OK},
		{Charge, wrong, 1, 65, wrong, api.ErrInvalid},
		{Charge, nil, 0, 0, nil, api.ErrInvalid},
		{Uncharge, l, 0, 1, with(0, 7), api.OK},
		{Uncharge, l, 0, 8, with(0, 0), api.OK},
		{Uncharge, l, 0, 9, nil, api.ErrUnknown},
		{Uncharge, l, 0, 64, nil, api.ErrUnknown},
		{Uncharge, l, 0, 65, nil, api.ErrRange},
		{Uncharge, l, 0, 0, l, api.OK},
		{Uncharge, l, 0, -1, nil, api.ErrRange},
		{Uncharge, l, 1, 3, with(1, 0), api.OK},
		{Uncharge, l, 1, 4, nil, api.ErrUnknown},
		{Uncharge, l, 2, 0, l, api.OK},
		{Uncharge, l, 2, 3, with(2, 6), api.OK},
		{Uncharge, l, 3, 1, nil, api.ErrRange},
		{Uncharge, l, -1, 64, nil, api.ErrRange},
		{Uncharge, []api.Group{{Limit: 1, Charge: 64}}, 0, 64, []api.Group{{Limit: 1}}, api.OK},
		{Uncharge, wrong, 1, 65, wrong, api.ErrInvalid},
		{Uncharge, nil, 0, 0, nil, api.ErrInvalid},
	} {
		if got, err := c.do(c.l, c.t, c.n); !slices.Equal(got, c.want) || err != c.err {
			t.Errorf("%d: %d of tenant %d: %+v %d, want %+v %d", i, c.n, c.t, got, int(err), c.want, int(c.err))
		}
	}
}

// P11.2: what groups have too much, by hand.
func TestOverCases(t *testing.T) {
	for i, c := range []struct {
		l    []api.Group
		t, n int
		want int
	}{
		{right(), 0, 0, 0}, {right(), 0, 2, 0}, {right(), 0, 3, 1}, {right(), 0, 64, 62}, {right(), 0, 65, 0}, {right(), 0, -1, 0}, {right(), 0, math.MaxInt, 0},
		{right(), 1, 3, 0}, {right(), 1, 5, 2}, {right(), 2, 0, 4}, {right(), 2, 1, 5}, {right(), 2, -1, 0}, {right(), 2, 65, 0}, {right(), 3, 1, 0}, {right(), -1, 64, 0},
		{[]api.Group{{Limit: 1, Charge: 64}}, 0, 64, 127}, {[]api.Group{{Limit: 64, Charge: 64}}, 0, 1, 1}, {nil, 0, 64, 0}, {[]api.Group{{Charge: 5}}, 0, 5, 0},
	} {
		if got := Over(c.l, c.t, c.n); got != c.want {
			t.Errorf("%d: %d, want %d", i, got, c.want)
		}
	}
}

// P11.2: Excess of all right groups, counted frame by frame; the limit plays no part.
func TestExcessRight(t *testing.T) {
	for protect := 0; protect <= mostFrames; protect++ {
		for charge := 0; charge <= mostFrames; charge++ {
			want := 0
			for frame := 1; frame <= charge; frame++ {
				if frame > protect {
					want++
				}
			}
			for _, limit := range []int{max(protect, 1), mostFrames} {
				g := api.Group{Limit: limit, Protect: protect, Charge: charge}
				if got := Excess(g); got != want {
					t.Fatalf("%+v: %d, want %d", g, got, want)
				}
			}
		}
	}
}

// P11.2: Excess of groups that are not right: as it is defined, and not below 0 however far the numbers are apart.
func TestExcessFar(t *testing.T) {
	for _, c := range []struct{ protect, charge, want int }{
		{2, 70, 68}, {70, 2, 0}, {-3, 5, 8}, {5, -3, 0}, {-3, -1, 2}, {-1, -3, 0}, {math.MaxInt, math.MaxInt, 0}, {math.MinInt, math.MinInt, 0}, {0, math.MaxInt, math.MaxInt}, {1, math.MaxInt, math.MaxInt - 1},
		{math.MaxInt, 0, 0}, {math.MaxInt, math.MinInt, 0}, {1, math.MinInt, 0}, {0, math.MinInt, 0}, {math.MinInt, -1, math.MaxInt}, {math.MaxInt, -2, 0},
	} {
		if got := Excess(api.Group{Protect: c.protect, Charge: c.charge}); got != c.want {
			t.Errorf("%d above %d: %d, want %d", c.charge, c.protect, got, c.want)
		}
	}
	for _, protect := range farNumbers {
		for _, charge := range farNumbers {
			if got := Excess(api.Group{Protect: protect, Charge: charge}); got < 0 || (got > 0) != (charge > protect) {
				t.Errorf("%d above %d: %d", charge, protect, got)
			}
		}
	}
}

// P11.1 and P11.2: all right groups of a few frames, alone and in pairs, with all tenants and numbers near them.
func TestChargeAll(t *testing.T) {
	groups := groupsOf(3, 5)
	for _, l := range append(listsOf(groups, 1), listsOf(groups, 2)...) {
		for tenant := -1; tenant <= len(l); tenant++ {
			for _, n := range []int{-1, 0, 1, 2, 3, 4, 5, 6, 64, 65} {
				expectCharges(t, l, tenant, n)
			}
		}
	}
	for limit := 1; limit <= mostFrames; limit++ {
		for charge := 0; charge <= mostFrames; charge++ {
			l := []api.Group{{Limit: 3, Protect: 1, Charge: 2}, {Limit: limit, Protect: limit / 2, Charge: charge}}
			for n := -1; n <= mostFrames+1; n++ {
				expectCharges(t, l, 1, n)
			}
		}
	}
}

// P11.1 and P11.2: tenants and numbers that are far from those that there are, in 1 to 4 groups.
func TestFarNumbers(t *testing.T) {
	for _, l := range [][]api.Group{right()[:1], right()[:2], right(), append(right(), right()[0])} {
		for _, far := range farNumbers {
			for near := -1; near <= 5; near++ {
				expectCharges(t, l, far, near)
				expectCharges(t, l, near, far)
			}
			expectCharges(t, l, far, far)
			expectDivide(t, l, far)
		}
	}
}

// P11.1 to P11.3: what groups that are not right lead to, ahead of all that is wrong with a tenant or a number, and the groups as they are.
func TestNotRight(t *testing.T) {
	for _, l := range badGroups() {
		for _, n := range append([]int{0, 1, 2, 3, 4, 5, 64}, farNumbers...) {
			for _, tenant := range append([]int{0, 1, 2, 3, 4}, farNumbers...) {
				if got, err := Charge(l, tenant, n); !slices.Equal(got, l) || err != api.ErrInvalid {
					t.Fatalf("Charge of %d to tenant %d of %+v: %+v %d", n, tenant, l, got, int(err))
				}
				if got, err := Uncharge(l, tenant, n); !slices.Equal(got, l) || err != api.ErrInvalid {
					t.Fatalf("Uncharge of %d from tenant %d of %+v: %+v %d", n, tenant, l, got, int(err))
				}
				if got := Over(l, tenant, n); got != 0 {
					t.Fatalf("Over of %d for tenant %d of %+v: %d", n, tenant, l, got)
				}
			}
			if got := Divide(l, n); len(got) != 0 {
				t.Fatalf("Divide of %d among %+v: %v", n, l, got)
			}
		}
	}
}

// P11.1 and P11.2 together: in long rows of charges, each tenant has what it was charged, never above its limit, and Over tells which charge would be refused.
func TestLongRows(t *testing.T) {
	r := rand.New(rand.NewSource(11))
	for _, limits := range [][]int{{1}, {64}, {8, 8}, {10, 20, 34}, {16, 1, 64, 7}} {
		var l []api.Group
		for _, limit := range limits {
			l = append(l, api.Group{Limit: limit, Protect: r.Intn(limit + 1)})
		}
		charged := make([]int, len(limits))
		for range 2000 {
			tenant, n := r.Intn(len(limits)), r.Intn(12)
			expectCharges(t, l, tenant, n)
			if over := Over(l, tenant, n); r.Intn(2) == 0 {
				next, err := Charge(l, tenant, n)
				if (err == api.OK) != (over == 0) {
					t.Fatalf("Charge of %d to tenant %d of %+v: %d, and it is %d over", n, tenant, l, int(err), over)
				}
				if err == api.OK {
					l, charged[tenant] = next, charged[tenant]+n
				}
			} else if next, err := Uncharge(l, tenant, n); err == api.OK {
				l, charged[tenant] = next, charged[tenant]-n
			}
			for i, g := range l {
				if g.Charge != charged[i] || g.Charge < 0 || g.Charge > limits[i] || g.Limit != limits[i] {
					t.Fatalf("%v were charged: %+v", charged, l)
				}
			}
		}
	}
}

// withRoom returns groups with room behind them, and all of this memory.
func withRoom(l []api.Group) (groups, memory []api.Group) {
	memory = append(slices.Clone(l), api.Group{Limit: 7, Protect: 3, Charge: 5}, api.Group{Limit: 9, Charge: 4})
	return memory[:len(l)], memory
}

// R2: the groups stay as they are, even where there is room behind them, and results share no memory with them.
func TestArguments(t *testing.T) {
	for _, l := range append(badGroups(), right()[:1], right()[:2], right(), append(right(), right()[0])) {
		for i, do := range []func(l []api.Group) []api.Group{
			func(l []api.Group) []api.Group { next, _ := Charge(l, 0, 1); return next },
			func(l []api.Group) []api.Group { next, _ := Charge(l, 0, 0); return next },
			func(l []api.Group) []api.Group { next, _ := Charge(l, 0, 64); return next },
			func(l []api.Group) []api.Group { next, _ := Charge(l, 9, 1); return next },
			func(l []api.Group) []api.Group { next, _ := Uncharge(l, 0, 1); return next },
			func(l []api.Group) []api.Group { next, _ := Uncharge(l, 0, 0); return next },
			func(l []api.Group) []api.Group { next, _ := Uncharge(l, 0, 64); return next },
			func(l []api.Group) []api.Group { next, _ := Uncharge(l, 9, 1); return next },
			func(l []api.Group) []api.Group { Check(l); Divide(l, 9); Over(l, 0, 9); return nil },
		} {
			groups, memory := withRoom(l)
			_, want := withRoom(l)
			next := do(groups)
			next = next[:cap(next)]
			for k := range next {
				next[k] = api.Group{Limit: -100, Protect: -100, Charge: -100}
			}
			if !slices.Equal(memory, want) {
				t.Fatalf("function %d of %+v: the argument became %+v", i, l, memory)
			}
		}
	}
}

// R2: nothing is kept between calls, also not in the memory of a result.
func TestDivideMemory(t *testing.T) {
	for _, l := range [][]api.Group{right()[:1], right()[:2], right(), append(right(), right()[0])} {
		for n := range 30 {
			first := Divide(l, n)
			first = first[:cap(first)]
			for i := range first {
				first[i] = -100
			}
			expectDivide(t, l, n)
		}
	}
}
