package throttle

import (
	"math"
	"slices"
	"testing"
)

// allRates returns numbers below the rates, the rates, and those that count as the greatest one, lowest first.
func allRates() []int {
	l := slices.Concat(lowRates, rates(), highRates)
	slices.Sort(l)
	return slices.Compact(l)
}

// Consequences: a pause is never shorter with more dirty pages, also with more than there can be.
func TestPauseByDirty(t *testing.T) {
	for _, rate := range allRates() {
		for limit := range mostFrames + 1 {
			for _, pages := range []int{0, 1, 2, 5, 31, 64} {
				before := 0
				for dirty := range mostFrames + 2 {
					now := Pause(dirty, limit, rate, pages)
					if now < before {
						t.Fatalf("Pause for %d pages with %d of %d at %d: %d after %d", pages, dirty, limit, rate, now, before)
					}
					before = now
				}
			}
		}
	}
}

// Consequences: a pause is never shorter with a lower rate.
func TestPauseByRate(t *testing.T) {
	l := allRates()
	for limit := range mostFrames + 1 {
		for dirty := range mostFrames + 1 {
			for _, pages := range []int{0, 1, 2, 5, 31, 64} {
				before := longest
				for _, rate := range l {
					now := Pause(dirty, limit, rate, pages)
					if now > before {
						t.Fatalf("Pause for %d pages with %d of %d at %d: %d after %d", pages, dirty, limit, rate, now, before)
					}
					before = now
				}
			}
		}
	}
}

// Consequences: a pause is never shorter with more pages, also with more than there can be.
func TestPauseByPages(t *testing.T) {
	for _, rate := range allRates() {
		for limit := range mostFrames + 1 {
			for _, dirty := range []int{0, limit / 2, limit/2 + 1, (limit*3 + 3) / 4, limit - 1, limit, mostFrames} {
				before := 0
				for pages := range mostFrames + 2 {
					now := Pause(dirty, limit, rate, pages)
					if now < before {
						t.Fatalf("Pause for %d pages with %d of %d at %d: %d after %d", pages, dirty, limit, rate, now, before)
					}
					before = now
				}
			}
		}
	}
}

// Consequences: at the limit, and above it, a writer of any pages pauses as long as possible, at any rate.
func TestPauseAtLimit(t *testing.T) {
	for _, rate := range allRates() {
		for limit := 1; limit <= mostFrames; limit++ {
			for dirty := limit; dirty <= mostFrames; dirty++ {
				for _, pages := range []int{1, 2, 31, 64} {
					expectCases(t, pauseCase{dirty, limit, rate, pages, longest})
				}
			}
		}
	}
}

// P14.1 to P14.3 together: a writer that is not free pauses at least a tick, even at the greatest rate, and one that is free does not; a position is within the way.
func TestPauseOrFree(t *testing.T) {
	for limit := range mostFrames + 1 {
		for dirty := range mostFrames + 1 {
			free, position := Free(dirty, limit), Position(dirty, limit)
			if position < 0 || position > 256 || free != (position == 256) || (position == 0) != (!free && dirty >= limit) {
				t.Fatalf("Position with %d of %d: %d, and Free is %v", dirty, limit, position, free)
			}
			for _, rate := range []int{1, 256, mostRate, math.MaxInt} {
				for pages := 1; pages <= mostFrames; pages++ {
					if got := Pause(dirty, limit, rate, pages); free != (got == 0) {
						t.Fatalf("Pause for %d pages with %d of %d at %d: %d, and Free is %v", pages, dirty, limit, rate, got, free)
					}
				}
			}
		}
	}
}

// P14.2: a position never becomes greater with more dirty pages, nor less with a greater limit.
func TestPositionOrder(t *testing.T) {
	for limit := range mostFrames + 1 {
		for dirty := range mostFrames {
			if now, more := Position(dirty, limit), Position(dirty+1, limit); more > now {
				t.Fatalf("Position of %d in %d: %d, and of one more: %d", dirty, limit, now, more)
			}
			if limit < mostFrames && Position(dirty, limit+1) < Position(dirty, limit) {
				t.Fatalf("Position of %d in %d: %d, and in one more: %d", dirty, limit, Position(dirty, limit), Position(dirty, limit+1))
			}
		}
	}
}
