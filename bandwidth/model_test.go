package bandwidth

import (
	"math"
	"math/big"
	"testing"

	"pagecache/api"
)

// The limits, in numbers as the document says them: the greatest tick, the greatest Avg and Done, and the most pages of one note.
const (
	lastTick  = 1000000
	most      = 256000000
	mostPages = 64
)

// farNumbers are numbers that are no speeds, no ticks and no numbers of pages.
var farNumbers = []int{-1, -2, -16, -256, -most, -most - 1, most + 1, most + 2, 2 * most, 1 << 32, 1<<32 + 5, -1 << 32, math.MaxInt, math.MaxInt - 1, math.MinInt, math.MinInt + 1}

// farTicks are numbers that are no ticks; some of them are speeds.
var farTicks = append([]int{lastTick + 1, lastTick + 2, lastTick + 16, 2 * lastTick, most}, farNumbers...)

// farPages are numbers of pages that no note has; some of them are ticks or speeds.
var farPages = append([]int{mostPages + 1, mostPages + 2, 128, 256, lastTick, most}, farNumbers...)

// measure returns a measure with these numbers.
func measure(avg, stamp, done int) api.Measure {
	return api.Measure{Avg: avg, Stamp: stamp, Done: done}
}

// badMeasures are measures that are not right, for one reason and for several.
func badMeasures() []api.Measure {
	var l []api.Measure
	for _, n := range farNumbers {
		l = append(l, measure(n, 5, 7), measure(256, 5, n), measure(n, 0, n), measure(n, n, n))
	}
	for _, n := range farTicks {
		l = append(l, measure(256, n, 7), measure(0, n, 0), measure(most, n, most))
	}
	return l
}

// speeds are numbers that an Avg can be, from the least one to the greatest one.
func speeds() []int {
	var l []int
	for n := range 12 {
		l = append(l, n)
	}
	return append(l, 254, 255, 256, 257, 258, 320, 1000, 4095, 4096, 16384, 65536, lastTick, most/2, most-2, most-1, most)
}

// modelRight is the chapter's definition of right measures.
func modelRight(m api.Measure) bool {
	wrong := m.Avg < 0 || m.Avg > most || m.Done < 0 || m.Done > most || m.Stamp < 0 || m.Stamp > lastTick
	return !wrong
}

// lesser returns the lesser one of a number and the greatest Avg or Done.
func lesser(n *big.Int) *big.Int {
	if limit := big.NewInt(most); n.Cmp(limit) > 0 {
		return limit
	}
	return n
}

// modelNote is P12.2 in numbers without an end.
func modelNote(m api.Measure, now, pages int) (api.Measure, api.Errno) {
	if !modelRight(m) {
		return m, api.ErrInvalid
	}
	if now < m.Stamp || now > lastTick || pages < 0 || pages > mostPages {
		return m, api.ErrRange
	}
	done := lesser(new(big.Int).Add(big.NewInt(int64(m.Done)), big.NewInt(int64(pages))))
	ticks := big.NewInt(int64(now - m.Stamp))
	if ticks.Cmp(big.NewInt(16)) < 0 {
		return api.Measure{Avg: m.Avg, Stamp: m.Stamp, Done: int(done.Int64())}, api.OK
	}
	speed := new(big.Int).Div(new(big.Int).Mul(done, big.NewInt(256)), ticks)
	sum := new(big.Int).Add(new(big.Int).Mul(big.NewInt(3), big.NewInt(int64(m.Avg))), speed)
	avg := lesser(new(big.Int).Div(sum, big.NewInt(4)))
	return api.Measure{Avg: int(avg.Int64()), Stamp: now}, api.OK
}

func expectNote(t *testing.T, m api.Measure, now, pages int) api.Measure {
	t.Helper()
	want, wantErr := modelNote(m, now, pages)
	got, err := Note(m, now, pages)
	if got != want || err != wantErr {
		t.Fatalf("%d pages at %d to %+v: %+v %d, want %+v %d", pages, now, m, got, int(err), want, int(wantErr))
	}
	if err == api.OK && !Check(got) {
		t.Fatalf("%d pages at %d to %+v: %+v is not right", pages, now, m, got)
	}
	return got
}

func expectRate(t *testing.T, m api.Measure, want int) {
	t.Helper()
	if got := Rate(m); got != want {
		t.Errorf("Rate of %+v: %d, want %d", m, got, want)
	}
}
