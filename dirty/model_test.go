package dirty

import (
	"math"
	"slices"
	"testing"

	"pagecache/api"
)

// The limits, in numbers as the document says them: most is the greatest number of events, and the longest period.
const (
	most        = 1000000
	mostDevices = 4
	mostFrames  = 64
)

// farNumbers are numbers that are no devices, no events, no periods and no numbers of pages or of frames.
var farNumbers = []int{-1, -2, -64, -most, most + 1, most + 2, 2 * most, 1 << 32, 1<<32 + 5, -1 << 32, math.MaxInt, math.MaxInt - 1, math.MinInt, math.MinInt + 1}

// farPages are numbers of pages, of frames and limits that there are not; some of them are events or periods.
var farPages = append([]int{mostFrames + 1, mostFrames + 2, 100, 128, most - 1, most}, farNumbers...)

// proportions returns proportions with these numbers, in memory of their own.
func proportions(period, left int, events ...int) api.Proportions {
	return api.Proportions{Events: slices.Clone(events), Period: period, Left: left}
}

// right returns right proportions of 1 to 4 devices, from the least ones to the greatest ones.
func right() []api.Proportions {
	return []api.Proportions{
		proportions(1, 1, 0), proportions(32, 29, 3, 0), proportions(4, 2, 5, 1, 9), proportions(100, 100, 7, 0, 7, 30), proportions(most, most, most, most, most, most),
		proportions(most, 1, most), proportions(1, 1, 1, 2), proportions(most, most-1, 0, most, 1), proportions(5, 5, 0, 0, 0, 0), proportions(64, 64, most-1, most, 12, most/2),
	}
}

// badProportions are proportions that are not right, for one reason each, and some for several.
func badProportions() []api.Proportions {
	l := []api.Proportions{
		{}, {Events: []int{}, Period: 4, Left: 4}, proportions(4, 4), proportions(4, 4, 0, 0, 0, 0, 0), proportions(4, 4, make([]int, 1000)...),
		proportions(0, 0, 1, 2), proportions(4, 0, 1, 2), proportions(0, 1, 1, 2), proportions(4, 5, 1, 2), proportions(1, 2, 1), proportions(3, most, 1), proportions(most, most+1, 1), proportions(-4, -5, 1), proportions(-4, -4, 1), proportions(0, 0),
	}
	for _, p := range right() {
		for _, n := range farNumbers {
			l = append(l, proportions(n, p.Left, p.Events...), proportions(p.Period, n, p.Events...), proportions(n, n, p.Events...))
			for i := range p.Events {
				events := slices.Clone(p.Events)
				events[i] = n
				l = append(l, proportions(p.Period, p.Left, events...), proportions(n, n, events...))
			}
		}
	}
	return l
}

// same reports whether two proportions are the same.
func same(a, b api.Proportions) bool {
	return slices.Equal(a.Events, b.Events) && a.Period == b.Period && a.Left == b.Left
}

// modelRight is the chapter's definition of right proportions.
func modelRight(p api.Proportions) bool {
	switch len(p.Events) {
	case 1, 2, 3, mostDevices:
	default:
		return false
	}
	if slices.Min(p.Events) < 0 || slices.Max(p.Events) > most {
		return false
	}
	return p.Left > 0 && p.Left <= p.Period && p.Period <= most
}

// modelComplete counts all pages of a period at once, and not one by one.
func modelComplete(p api.Proportions, device, pages int) (api.Proportions, api.Errno) {
	if !modelRight(p) {
		return p, api.ErrInvalid
	}
	if device < 0 || device > len(p.Events)-1 || pages < 0 || pages > mostFrames {
		return p, api.ErrRange
	}
	next := proportions(p.Period, p.Left, p.Events...)
	for pages >= next.Left {
		next.Events[device] = min(next.Events[device]+next.Left, most)
		pages -= next.Left
		next.Left = next.Period
		for i, e := range next.Events {
			next.Events[i] = (e - e%2) / 2
		}
	}
	next.Events[device] = min(next.Events[device]+pages, most)
	next.Left -= pages
	return next, api.OK
}

// modelLimit looks for the greatest number of frames that is no more than percent hundredths of all.
func modelLimit(frames, percent int) int {
	if frames < 6 || frames > mostFrames || percent < 0 || percent > 100 {
		return 0
	}
	limit := frames
	for limit*100 > frames*percent {
		limit--
	}
	if limit < 6 {
		return 6
	}
	return limit
}

// modelShare looks for the greatest part of what a limit has above 5 that is not above the fraction.
func modelShare(p api.Proportions, device, limit int) int {
	if !modelRight(p) || device < 0 || device >= len(p.Events) || limit < 0 || limit > mostFrames {
		return 0
	}
	if limit <= 5 {
		return limit
	}
	above, below := p.Events[device]+1, 0
	for _, e := range p.Events {
		below += e + 1
	}
	part := limit - 5
	for part*below > (limit-5)*above {
		part--
	}
	return 5 + part
}

func expectComplete(t *testing.T, p api.Proportions, device, pages int) api.Proportions {
	t.Helper()
	want, wantErr := modelComplete(p, device, pages)
	got, err := Complete(p, device, pages)
	if !same(got, want) || err != wantErr {
		t.Fatalf("%d pages of device %d to %+v: %+v %d, want %+v %d", pages, device, p, got, int(err), want, int(wantErr))
	}
	if err == api.OK && !Check(got) {
		t.Fatalf("%d pages of device %d to %+v: %+v is not right", pages, device, p, got)
	}
	return got
}

func expectShare(t *testing.T, p api.Proportions, device, limit int) {
	t.Helper()
	if got, want := Share(p, device, limit), modelShare(p, device, limit); got != want {
		t.Fatalf("Share of device %d of %d in %+v: %d, want %d", device, limit, p, got, want)
	}
}
