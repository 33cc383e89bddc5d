package bandwidth

import "pagecache/api"

// average is a right measure whose Avg is being computed.
type average struct {
	api.Measure
}

// count adds pages to those that are done.
func (a *average) count(pages int) {
	a.Done = min(a.Done+pages, greatest)
}

// ticks returns how long the measure has been going on since its Avg was computed last.
func (a *average) ticks(now int) int {
	return now - a.Stamp
}

// renew computes Avg at the end of a period. The new speed counts for a quarter, so that a single fast or slow period changes little.
func (a *average) renew(now int) {
	speed := a.Done * scale / a.ticks(now)
	a.Avg = min((3*a.Avg+speed)/4, greatest)
	a.Done, a.Stamp = 0, now
}

// isWithin reports whether n is from least to most.
func isWithin(n, least, most int) bool {
	return n >= least && n <= most
}
