package group

import (
	"slices"

	"pagecache/api"
)

// pieces counts the frames that are taken from the groups: there is an element for each tenant that there can be.
type pieces [api.MaxTenants]int

// withOneMore returns the pieces with a frame more, from the group that is to lose it; the pieces themselves if no group has one left.
func (p pieces) withOneMore(l []api.Group) pieces {
	at, ok := p.richest(l, Excess)
	if !ok {
		at, ok = p.richest(l, chargeOf)
	}
	if ok {
		p[at]++
	}
	return p
}

// richest returns the first group that has the most left of what it has, and false if none has any.
func (p pieces) richest(l []api.Group, has func(api.Group) int) (int, bool) {
	at, most := 0, 0
	for i, g := range l {
		if left := has(g) - p[i]; left > most {
			at, most = i, left
		}
	}
	return at, most > 0
}

// chargeOf returns all that a group has.
func chargeOf(g api.Group) int {
	return g.Charge
}

// isWrong reports whether a group is not right.
func isWrong(g api.Group) bool {
	return !isFrom(g.Limit, 1, api.MaxFrames) || !isFrom(g.Protect, 0, g.Limit) || !isFrom(g.Charge, 0, api.MaxFrames)
}

// canCharge reports whether there is a tenant t, and n frames can be asked for.
func canCharge(l []api.Group, t, n int) bool {
	return isFrom(t, 0, len(l)-1) && isFrom(n, 0, api.MaxFrames)
}

// isFrom reports whether n is from least to most.
func isFrom(n, least, most int) bool {
	return n >= least && n <= most
}

// changed returns groups with by frames more charged to tenant t, in memory of their own.
func changed(l []api.Group, t, by int) []api.Group {
	next := slices.Clone(l)
	next[t].Charge += by
	return next
}
