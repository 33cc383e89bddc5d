package throttle

import (
	"math"
	"testing"
)

// The limits, in numbers as the document says them: the most frames, the longest pause, and the greatest rate that counts.
const (
	mostFrames = 64
	longest    = 64
	mostRate   = 1000000
)

// farNumbers are numbers that are no numbers of pages and no limits. Some of them become such numbers, or 0, when they are doubled or multiplied.
var farNumbers = []int{-1, -2, -3, -63, -64, -65, -256, mostFrames + 1, mostFrames + 2, 127, 128, 129, 255, 256, 512, mostRate, mostRate + 1, 1 << 31, 1 << 32, 1<<32 + 5, -1 << 32, 1 << 47, 1 << 55, 1 << 62, 1<<62 + 7, -1 << 62, math.MaxInt, math.MaxInt - 1, math.MinInt, math.MinInt + 1}

// lowRates are numbers that are no rates.
var lowRates = []int{0, -1, -2, -256, -mostRate, -1 << 32, -1 << 62, math.MinInt, math.MinInt + 1}

// highRates are rates that count as the greatest one. Some of them become 0 or less than 0 when they are multiplied.
var highRates = []int{mostRate + 1, mostRate + 2, 2 * mostRate, 1 << 31, 1 << 32, 1<<32 + 5, 1 << 55, 1 << 56, 1 << 57, 1 << 60, 1 << 62, 1<<62 + 7, math.MaxInt/248 + 1, math.MaxInt/8 + 1, math.MaxInt - 1, math.MaxInt}

// counts returns all numbers of pages, and some numbers that are none.
func counts() []int {
	var l []int
	for n := range mostFrames + 1 {
		l = append(l, n)
	}
	return append(l, farNumbers...)
}

// rates returns rates from the least one to the greatest ones, lowest first.
func rates() []int {
	var l []int
	for n := 1; n <= 40; n++ {
		l = append(l, n)
	}
	for n := 41; n < mostRate; n += 1 + n/9 {
		l = append(l, n)
	}
	return append(l, mostRate-1, mostRate)
}

// isFar reports whether n is no number of pages and no limit.
func isFar(n int) bool {
	return n < 0 || n > mostFrames
}

// modelFree is P14.1: what is dirty fits into the limit twice.
func modelFree(dirty, limit int) bool {
	if isFar(dirty) || isFar(limit) {
		return false
	}
	return limit-dirty >= dirty
}

// modelPosition is P14.2. It looks for the greatest number of 256ths that does not go beyond the limit.
func modelPosition(dirty, limit int) int {
	switch {
	case isFar(dirty), isFar(limit):
		return 0
	case limit-dirty >= dirty:
		return 256
	case limit <= dirty:
		return 0
	}
	position := 0
	for (position+1)*limit <= (limit-dirty)*512 {
		position++
	}
	return position
}

// modelPause is P14.3. It looks for the first tick at which a device that is slowed down has completed the pages.
func modelPause(dirty, limit, rate, pages int) int {
	switch {
	case isFar(dirty), isFar(limit), isFar(pages), rate <= 0:
		return longest
	case modelFree(dirty, limit), pages == 0:
		return 0
	case rate > mostRate:
		rate = mostRate
	}
	ticks, position := 0, modelPosition(dirty, limit)
	for ticks < longest && ticks*rate*position < pages*65536 {
		ticks++
	}
	return ticks
}

func expectFree(t *testing.T, dirty, limit int) {
	t.Helper()
	if got, want := Free(dirty, limit), modelFree(dirty, limit); got != want {
		t.Fatalf("Free with %d of %d: %v", dirty, limit, got)
	}
}

func expectPosition(t *testing.T, dirty, limit int) {
	t.Helper()
	if got, want := Position(dirty, limit), modelPosition(dirty, limit); got != want {
		t.Fatalf("Position with %d of %d: %d, want %d", dirty, limit, got, want)
	}
}

func expectPause(t *testing.T, dirty, limit, rate, pages int) {
	t.Helper()
	if got, want := Pause(dirty, limit, rate, pages), modelPause(dirty, limit, rate, pages); got != want {
		t.Fatalf("Pause for %d pages with %d of %d at %d: %d, want %d", pages, dirty, limit, rate, got, want)
	}
}
