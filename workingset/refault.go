package workingset

import "pagecache/api"

// refault is a page that comes back: the clock of its group now, and the shadow that it left.
type refault struct {
	clock, shadow int
}

// check returns the first error of a refault, in the chapter's order.
func (r refault) check() api.Errno {
	for _, need := range []struct {
		holds func(refault) bool
		err   api.Errno
	}{
		{refault.hasClock, api.ErrRange},
		{refault.hasPast, api.ErrInvalid},
	} {
		if !need.holds(r) {
			return need.err
		}
	}
	return api.OK
}

// hasClock reports whether the clock is one.
func (r refault) hasClock() bool {
	return isClock(r.clock)
}

// hasPast reports whether the shadow is one of an eviction that the clock has counted already.
func (r refault) hasPast() bool {
	stamp, ok := Stamp(r.shadow)
	return ok && stamp < r.clock
}

// distance returns how many evictions a refault without an error has behind it, the one of its page included.
func (r refault) distance() int {
	return r.clock - mirrored(r.shadow)
}
