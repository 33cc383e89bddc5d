package throttle

import (
	"math"
	"testing"
)

// Example 1.
func TestExample(t *testing.T) {
	if got := Position(12, 16); got != 128 {
		t.Errorf("Position is %d", got)
	}
	if got := Pause(12, 16, 256, 1); got != 2 {
		t.Errorf("a page pauses %d ticks", got)
	}
}

// P14.1: up to half of the limit, and one page more.
func TestFreeCases(t *testing.T) {
	for _, c := range []struct {
		dirty, limit int
		want         bool
	}{
		{0, 0, true}, {1, 0, false}, {0, 1, true}, {1, 1, false}, {1, 2, true}, {2, 2, false}, {1, 3, true}, {2, 3, false},
		{8, 16, true}, {9, 16, false}, {16, 16, false}, {17, 16, false}, {7, 15, true}, {8, 15, false}, {31, 63, true}, {32, 63, false},
		{32, 64, true}, {33, 64, false}, {64, 64, false}, {0, 64, true}, {64, 0, false}, {64, 63, false},
		{-1, 16, false}, {-1, -1, false}, {0, -1, false}, {-2, -1, false}, {0, 65, false}, {1, 65, false}, {32, 65, false}, {64, 128, false}, {65, 64, false}, {65, 130, false},
		{math.MinInt, 0, false}, {math.MinInt, 64, false}, {0, math.MaxInt, false}, {64, math.MaxInt, false}, {math.MinInt, math.MaxInt, false}, {1 << 62, 16, false}, {0, math.MinInt, false},
	} {
		if got := Free(c.dirty, c.limit); got != c.want {
			t.Errorf("Free with %d of %d: %v", c.dirty, c.limit, got)
		}
	}
}

// P14.2: below half of the limit, between it and the limit, at the limit and above it, and numbers out of range.
func TestPositionCases(t *testing.T) {
	for _, c := range []struct{ dirty, limit, want int }{
		{0, 0, 256}, {0, 1, 256}, {1, 2, 256}, {1, 3, 256}, {8, 16, 256}, {7, 15, 256}, {32, 64, 256}, {0, 64, 256},
		{9, 16, 224}, {12, 16, 128}, {15, 16, 32}, {33, 64, 248}, {48, 64, 128}, {63, 64, 8}, {32, 63, 251}, {62, 63, 8}, {8, 15, 238}, {14, 15, 34}, {2, 3, 170}, {4, 6, 170}, {5, 6, 85}, {6, 7, 73}, {4, 7, 219}, {50, 60, 85},
		{1, 1, 0}, {2, 2, 0}, {16, 16, 0}, {17, 16, 0}, {64, 64, 0}, {1, 0, 0}, {64, 0, 0}, {64, 1, 0}, {64, 63, 0},
		{-1, 16, 0}, {-1, 0, 0}, {-1, -1, 0}, {0, -1, 0}, {-3, -1, 0}, {0, 65, 0}, {33, 65, 0}, {64, 65, 0}, {65, 64, 0}, {65, 65, 0}, {65, 128, 0},
		{math.MinInt, 16, 0}, {math.MinInt, math.MaxInt, 0}, {12, math.MaxInt, 0}, {12, math.MinInt, 0}, {math.MaxInt, 16, 0}, {1 << 62, 16, 0}, {1 << 55, 1<<55 + 1, 0},
	} {
		if got := Position(c.dirty, c.limit); got != c.want {
			t.Errorf("Position with %d of %d: %d, want %d", c.dirty, c.limit, got, c.want)
		}
	}
}

// pauseCase is a call of Pause that is written down by hand.
type pauseCase struct{ dirty, limit, rate, pages, want int }

func expectCases(t *testing.T, cases ...pauseCase) {
	t.Helper()
	for _, c := range cases {
		if got := Pause(c.dirty, c.limit, c.rate, c.pages); got != c.want {
			t.Errorf("Pause for %d pages with %d of %d at %d: %d, want %d", c.pages, c.dirty, c.limit, c.rate, got, c.want)
		}
	}
}

// P14.3: pauses between half of the limit and the limit, which are rounded up, and are at most MaxPause.
func TestPauseCases(t *testing.T) {
	expectCases(t,
		pauseCase{12, 16, 256, 1, 2}, pauseCase{12, 16, 256, 4, 8}, pauseCase{12, 16, 512, 1, 1}, pauseCase{12, 16, 512, 3, 3}, pauseCase{12, 16, 255, 1, 3}, pauseCase{12, 16, 257, 1, 2}, pauseCase{12, 16, 128, 1, 4},
		pauseCase{9, 16, 256, 1, 2}, pauseCase{9, 16, 256, 7, 8}, pauseCase{9, 16, 256, 8, 10}, pauseCase{15, 16, 256, 1, 8}, pauseCase{14, 15, 256, 1, 8}, pauseCase{2, 3, 100, 1, 4},
		pauseCase{12, 16, 256, 31, 62}, pauseCase{12, 16, 256, 32, 64}, pauseCase{12, 16, 256, 33, 64}, pauseCase{12, 16, 256, 64, 64}, pauseCase{12, 16, 257, 32, 64}, pauseCase{12, 16, 265, 32, 62}, pauseCase{12, 16, 255, 32, 64},
		pauseCase{12, 16, 8, 1, 64}, pauseCase{12, 16, 9, 1, 57}, pauseCase{12, 16, 7, 1, 64}, pauseCase{12, 16, 1, 1, 64}, pauseCase{9, 16, 1, 1, 64}, pauseCase{33, 64, 1, 64, 64}, pauseCase{63, 64, 1, 64, 64},
		pauseCase{63, 64, 128, 1, 64}, pauseCase{63, 64, 8192, 64, 64}, pauseCase{63, 64, 8193, 64, 64}, pauseCase{63, 64, 8323, 64, 63}, pauseCase{63, 64, 524287, 64, 2}, pauseCase{63, 64, 524288, 64, 1}, pauseCase{63, 64, 1000000, 64, 1}, pauseCase{33, 64, 1000000, 1, 1},
	)
}

// P14.3: rates above MaxTick count as MaxTick, however great they are.
func TestPauseOfGreatRates(t *testing.T) {
	for _, rate := range highRates {
		for dirty := range mostFrames + 1 {
			for limit := range mostFrames + 1 {
				for pages := range mostFrames + 1 {
					expectPause(t, dirty, limit, rate, pages)
					if got, want := Pause(dirty, limit, rate, pages), Pause(dirty, limit, mostRate, pages); got != want {
						t.Fatalf("Pause for %d pages with %d of %d at %d: %d, and at MaxTick: %d", pages, dirty, limit, rate, got, want)
					}
				}
			}
		}
	}
}

// P14.3: nobody pauses up to half of the limit, nor for no pages, which comes ahead of the limit.
func TestPauseNone(t *testing.T) {
	for _, rate := range []int{1, 2, 256, mostRate, math.MaxInt} {
		for limit := range mostFrames + 1 {
			for dirty := range limit/2 + 1 {
				for pages := range mostFrames + 1 {
					expectCases(t, pauseCase{dirty, limit, rate, pages, 0})
				}
			}
			for dirty := range mostFrames + 1 {
				expectCases(t, pauseCase{dirty, limit, rate, 0, 0})
			}
		}
	}
}

// P14.3: numbers out of range lead to the longest pause, ahead of what would lead to none.
func TestPauseInvalid(t *testing.T) {
	for _, n := range farNumbers {
		for _, rate := range []int{1, 256, mostRate, 0, n} {
			expectCases(t,
				pauseCase{n, 16, rate, 1, longest}, pauseCase{n, 16, rate, 0, longest}, pauseCase{n, 64, rate, 64, longest}, pauseCase{n, 0, rate, 1, longest}, pauseCase{n, n, rate, n, longest},
				pauseCase{0, n, rate, 1, longest}, pauseCase{12, n, rate, 1, longest}, pauseCase{12, n, rate, 0, longest}, pauseCase{64, n, rate, 64, longest},
				pauseCase{0, 0, rate, n, longest}, pauseCase{0, 16, rate, n, longest}, pauseCase{12, 16, rate, n, longest}, pauseCase{16, 16, rate, n, longest},
			)
		}
	}
	for _, rate := range lowRates {
		for dirty := range mostFrames + 1 {
			for limit := range mostFrames + 1 {
				expectCases(t, pauseCase{dirty, limit, rate, 0, longest}, pauseCase{dirty, limit, rate, 1, longest}, pauseCase{dirty, limit, rate, mostFrames, longest})
			}
		}
	}
}

// P14.1 and P14.2: all numbers of dirty pages with all limits, and numbers beside them.
func TestFreeAndPositionAll(t *testing.T) {
	for _, dirty := range counts() {
		for _, limit := range counts() {
			expectFree(t, dirty, limit)
			expectPosition(t, dirty, limit)
		}
	}
}

// P14.3: all numbers of pages with all numbers of dirty pages and all limits, and numbers beside them, at several rates.
func TestPauseAll(t *testing.T) {
	for _, rate := range []int{-1, 0, 1, 7, 8, 100, 255, 256, 257, 1000, 8191, 8192, 8193, 65536, 524287, 524288, mostRate, mostRate + 1, math.MaxInt} {
		for _, dirty := range counts() {
			for _, limit := range counts() {
				for _, pages := range counts() {
					expectPause(t, dirty, limit, rate, pages)
				}
			}
		}
	}
}

// P14.3: rates from the least one to the greatest one.
func TestPauseRates(t *testing.T) {
	for _, rate := range rates() {
		for _, limit := range []int{2, 3, 6, 7, 16, 31, 63, 64} {
			for dirty := range limit {
				for _, pages := range []int{1, 2, 3, 5, 16, 63, 64} {
					expectPause(t, dirty, limit, rate, pages)
				}
			}
		}
	}
}

// P14.3: quotients that are exact and ones that are not, also beside the greatest number of a type.
func TestRoundedUp(t *testing.T) {
	for number := range 300 {
		for by := 1; by <= 40; by++ {
			up := roundedUp(number, by)
			if up*by < number || (up-1)*by >= number {
				t.Errorf("%d by %d: %d", number, by, up)
			}
		}
	}
	if got := roundedUp(math.MaxInt, math.MaxInt-1); got != 2 {
		t.Errorf("the greatest number: %d", got)
	}
	if got := roundedUp(int32(math.MaxInt32), 2); got != 1<<30 {
		t.Errorf("the greatest number of 32 bits: %d", got)
	}
	if got := roundedUp(int64(math.MaxInt64), math.MaxInt64); got != 1 {
		t.Errorf("the greatest number by itself: %d", got)
	}
}
