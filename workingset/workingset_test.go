package workingset

import (
	"math"
	"testing"

	"pagecache/api"
	"pagecache/radix"
)

// most is the greatest clock, in numbers as the limits say it.
const most = 1000000

// badClocks are numbers that no clock is.
var badClocks = []int{-1, -2, -5, -most, -most - 1, most + 1, most + 2, 2 * most, 1 << 32, 1<<32 + 5, math.MaxInt, math.MaxInt - 1, math.MinInt, math.MinInt + 1}

// badShadows are numbers that no shadow is.
var badShadows = []int{0, 1, 5, most, most + 1, -most - 2, -most - 3, -2 * most, -1 << 32, -1<<32 - 5, math.MaxInt, math.MaxInt - 1, math.MinInt, math.MinInt + 1}

// clocks are clocks from the least one to the greatest one.
func clocks() []int {
	var l []int
	for c := range 40 {
		l = append(l, c)
	}
	return append(l, 255, 256, 257, 65535, 65536, most/2, most-2, most-1, most)
}

// shadows has all shadows with their clocks, as the chapter writes them down.
func shadows() map[int]int {
	m := map[int]int{}
	for c := 0; c <= most; c++ {
		m[-(c + 1)] = c
	}
	return m
}

func expectShadow(t *testing.T, clock, want int, wantErr api.Errno) {
	t.Helper()
	if got, err := Shadow(clock); got != want || err != wantErr {
		t.Errorf("Shadow at %d: %d %d, want %d %d", clock, got, int(err), want, int(wantErr))
	}
}

func expectStamp(t *testing.T, shadow, want int, wantOK bool) {
	t.Helper()
	if got, ok := Stamp(shadow); got != want || ok != wantOK {
		t.Errorf("Stamp of %d: %d %v, want %d %v", shadow, got, ok, want, wantOK)
	}
}

func expectDistance(t *testing.T, clock, shadow, want int, wantErr api.Errno) {
	t.Helper()
	if got, err := Distance(clock, shadow); got != want || err != wantErr {
		t.Errorf("Distance at %d of %d: %d %d, want %d %d", clock, shadow, got, int(err), want, int(wantErr))
	}
}

func expectActivate(t *testing.T, clock, shadow, active int, want bool) {
	t.Helper()
	if got := Activate(clock, shadow, active); got != want {
		t.Errorf("Activate at %d of %d with %d active frames: not %v", clock, shadow, active, want)
	}
}

// P9.1: cases by hand, the first of them of example 1.
func TestShadowCases(t *testing.T) {
	expectShadow(t, 4, -5, api.OK)
	expectStamp(t, -5, 4, true)
	expectShadow(t, 0, -1, api.OK)
	expectStamp(t, -1, 0, true)
	expectShadow(t, 1000000, -1000001, api.OK)
	expectStamp(t, -1000001, 1000000, true)
	expectShadow(t, 1000001, 0, api.ErrRange)
	expectStamp(t, -1000002, 0, false)
	expectShadow(t, -1, 0, api.ErrRange)
	expectStamp(t, 0, 0, false)
}

// P9.1: all clocks with their shadows, and all numbers around them.
func TestShadowAll(t *testing.T) {
	want := shadows()
	for shadow, clock := range want {
		expectShadow(t, clock, shadow, api.OK)
	}
	for n := -most - 1000; n <= 1000; n++ {
		clock, ok := want[n]
		expectStamp(t, n, clock, ok)
	}
}

// P9.1: numbers that are neither clocks nor shadows.
func TestShadowErrors(t *testing.T) {
	for _, c := range badClocks {
		expectShadow(t, c, 0, api.ErrRange)
	}
	for _, s := range badShadows {
		expectStamp(t, s, 0, false)
	}
}

// P9.1: a shadow can stand in the index of a file, where it is no frame.
func TestShadowInIndex(t *testing.T) {
	for _, c := range clocks() {
		shadow, _ := Shadow(c)
		tree, err := radix.Set(api.Tree{}, 5, 9)
		if err != api.OK {
			t.Fatal(err)
		}
		tree, err = radix.Set(tree, 5, shadow)
		if err != api.OK || radix.Count(tree, 0) != 0 {
			t.Fatalf("%d in the index: %d, %d frames", shadow, int(err), radix.Count(tree, 0))
		}
		expectStamp(t, radix.Get(tree, 5), c, true)
	}
	expectStamp(t, radix.Get(api.Tree{}, 5), 0, false)
}

// P9.2: cases by hand, the first of them of example 1.
func TestDistanceCases(t *testing.T) {
	expectDistance(t, 7, -5, 3, api.OK)
	expectDistance(t, 5, -5, 1, api.OK)
	expectDistance(t, 4, -5, 0, api.ErrInvalid)
	expectDistance(t, 3, -5, 0, api.ErrInvalid)
	expectDistance(t, 1, -1, 1, api.OK)
	expectDistance(t, 0, -1, 0, api.ErrInvalid)
	expectDistance(t, 1000000, -1, 1000000, api.OK)
	expectDistance(t, 1000000, -1000000, 1, api.OK)
	expectDistance(t, 1000000, -1000001, 0, api.ErrInvalid)
	expectDistance(t, 1000001, -1000001, 0, api.ErrRange)
}

// P9.2: each clock with each shadow: the evictions are counted one by one.
func TestDistanceCounted(t *testing.T) {
	for evicted := range 60 {
		shadow := -(evicted + 1)
		for clock := 0; clock <= evicted; clock++ {
			expectDistance(t, clock, shadow, 0, api.ErrInvalid)
		}
		count := 0
		for clock := evicted + 1; clock < 80; clock++ {
			count++
			expectDistance(t, clock, shadow, count, api.OK)
		}
	}
}

// P9.2: few and many evictions, up to the greatest clock.
func TestDistanceFar(t *testing.T) {
	for _, evicted := range clocks() {
		shadow := -(evicted + 1)
		for _, clock := range clocks() {
			if clock > evicted {
				expectDistance(t, clock, shadow, clock-evicted, api.OK)
			} else {
				expectDistance(t, clock, shadow, 0, api.ErrInvalid)
			}
		}
	}
}

// P9.2: a clock that is none comes ahead of what is wrong with the shadow.
func TestDistanceErrors(t *testing.T) {
	for _, clock := range badClocks {
		for _, shadow := range badShadows {
			expectDistance(t, clock, shadow, 0, api.ErrRange)
		}
		for _, evicted := range clocks() {
			expectDistance(t, clock, -(evicted + 1), 0, api.ErrRange)
		}
	}
	for _, clock := range clocks() {
		for _, shadow := range badShadows {
			expectDistance(t, clock, shadow, 0, api.ErrInvalid)
		}
	}
}

// P9.3: with the frames of example 1, from none to very many.
func TestActivateCases(t *testing.T) {
	for _, active := range []int{3, 4, 5, 64, most, math.MaxInt} {
		expectActivate(t, 7, -5, active, true)
	}
	for _, active := range []int{2, 1, 0, -1, -3, -most, math.MinInt} {
		expectActivate(t, 7, -5, active, false)
	}
	expectActivate(t, 1, -1, 1, true)
	expectActivate(t, 1, -1, 0, false)
	expectActivate(t, 1000000, -1, 1000000, true)
	expectActivate(t, 1000000, -1, 999999, false)
}

// P9.3: the distance decides, up to as many frames as there can be, and the least and the greatest numbers.
func TestActivateAll(t *testing.T) {
	for _, evicted := range clocks() {
		for distance := 1; distance <= 70 && evicted+distance <= most; distance++ {
			clock, shadow := evicted+distance, -(evicted + 1)
			for active := -2; active < distance; active++ {
				expectActivate(t, clock, shadow, active, false)
			}
			for active := distance; active <= 72; active++ {
				expectActivate(t, clock, shadow, active, true)
			}
			expectActivate(t, clock, shadow, math.MinInt, false)
			expectActivate(t, clock, shadow, math.MaxInt, true)
		}
	}
}

// P9.3: without a distance nothing becomes active, however many frames are.
func TestActivateErrors(t *testing.T) {
	for _, active := range []int{0, 1, -1, 64, most, math.MaxInt, math.MinInt} {
		for _, clock := range badClocks {
			for _, shadow := range append([]int{-1, -5, -most, -most - 1}, badShadows...) {
				expectActivate(t, clock, shadow, active, false)
			}
		}
		for _, clock := range clocks() {
			for _, shadow := range badShadows {
				expectActivate(t, clock, shadow, active, false)
			}
			for _, later := range clocks() {
				if later >= clock {
					expectActivate(t, clock, -(later + 1), active, false)
				}
			}
		}
	}
}
