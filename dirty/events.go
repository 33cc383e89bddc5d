package dirty

import (
	"slices"

	"pagecache/api"
)

// countPage counts one page of a device that there is.
func countPage(p *api.Proportions, device int) {
	p.Events[device] = min(p.Events[device]+1, api.MaxTick)
	p.Left--
	if p.Left == 0 {
		endPeriod(p)
	}
}

// endPeriod halves all events, so that those of later periods count for more.
func endPeriod(p *api.Proportions) {
	for i := range p.Events {
		p.Events[i] /= 2
	}
	p.Left = p.Period
}

// copied returns proportions with memory of their own.
func copied(p api.Proportions) api.Proportions {
	p.Events = slices.Clone(p.Events)
	return p
}

// hasDevice reports whether there is a device in proportions.
func hasDevice(p api.Proportions, device int) bool {
	return isWithin(device, 0, len(p.Events)-1)
}

// isWrong reports whether a number can't be the events of a device.
func isWrong(events int) bool {
	return !isWithin(events, 0, api.MaxTick)
}

// isWithin reports whether n is from least to most.
func isWithin(n, least, most int) bool {
	return n >= least && n <= most
}

// sum adds numbers up.
func sum(numbers ...int) int {
	total := 0
	for _, n := range numbers {
		total += n
	}
	return total
}
