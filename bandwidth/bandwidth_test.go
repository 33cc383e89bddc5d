package bandwidth

import (
	"math"
	"math/rand"
	"testing"

	"pagecache/api"
)

// Example 1, with the pages in one note and in several ones.
func TestExample(t *testing.T) {
	for _, notes := range [][][2]int{{{16, 32}}, {{0, 32}, {16, 0}}, {{3, 10}, {3, 1}, {15, 20}, {16, 1}}} {
		m, err := Start(0)
		for _, n := range notes {
			if err != api.OK {
				t.Fatalf("%v: %d", notes, int(err))
			}
			m, err = Note(m, n[0], n[1])
		}
		if want := measure(320, 16, 0); m != want || err != api.OK {
			t.Errorf("%v: %+v %d, want %+v", notes, m, int(err), want)
		}
		expectRate(t, m, 320)
	}
}

// P12.1: right measures, from the least ones to the greatest ones, and ones that are not right.
func TestCheckCases(t *testing.T) {
	for _, m := range []api.Measure{
		{}, measure(256, 5, 7), measure(most, 0, 0), measure(0, lastTick, 0), measure(0, 0, most), measure(most, lastTick, most),
		measure(most-1, lastTick-1, most-1), measure(1, 1, 1), measure(0, 16, mostPages+1), measure(lastTick+1, 0, lastTick+1),
	} {
		if !Check(m) {
			t.Errorf("%+v is right", m)
		}
	}
	for _, m := range badMeasures() {
		if Check(m) {
			t.Errorf("%+v is not right", m)
		}
	}
}

// P12.1: all measures of numbers at and beside the edges.
func TestCheckAll(t *testing.T) {
	numbers := append(append(speeds(), lastTick-1), farTicks...)
	count := 0
	for _, avg := range numbers {
		for _, stamp := range numbers {
			for _, done := range numbers {
				m := measure(avg, stamp, done)
				want := modelRight(m)
				if Check(m) != want {
					t.Fatalf("%+v: not %v", m, want)
				}
				if want {
					count++
				}
			}
		}
	}
	if count == 0 {
		t.Error("none was right")
	}
}

// P12.1: measures that begin, at all ticks and at numbers that are none.
func TestStart(t *testing.T) {
	for now := range lastTick + 1 {
		m, err := Start(now)
		if want := measure(256, now, 0); m != want || err != api.OK || !Check(m) || Rate(m) != 256 {
			t.Fatalf("Start at %d: %+v %d, want %+v", now, m, int(err), want)
		}
	}
	for _, now := range farTicks {
		if m, err := Start(now); m != (api.Measure{}) || err != api.ErrRange {
			t.Errorf("Start at %d: %+v %d", now, m, int(err))
		}
	}
}

// noteCase is a note that is written down by hand.
type noteCase struct {
	m          api.Measure
	now, pages int
	want       api.Measure
}

func expectCases(t *testing.T, wantErr api.Errno, cases ...noteCase) {
	t.Helper()
	for _, c := range cases {
		if got, err := Note(c.m, c.now, c.pages); got != c.want || err != wantErr {
			t.Errorf("%d pages at %d to %+v: %+v %d, want %+v %d", c.pages, c.now, c.m, got, int(err), c.want, int(wantErr))
		}
	}
}

// P12.2: as long as no period has passed, pages are counted only.
func TestNoteCounts(t *testing.T) {
	expectCases(t, api.OK,
		noteCase{measure(256, 0, 0), 0, 0, measure(256, 0, 0)},
		noteCase{measure(256, 0, 0), 0, 1, measure(256, 0, 1)},
		noteCase{measure(256, 0, 5), 15, 64, measure(256, 0, 69)},
		noteCase{measure(0, 100, 5), 100, 2, measure(0, 100, 7)},
		noteCase{measure(7, 100, 5), 115, 2, measure(7, 100, 7)},
		noteCase{measure(7, lastTick-15, 5), lastTick, 2, measure(7, lastTick-15, 7)},
		noteCase{measure(7, lastTick, 5), lastTick, 64, measure(7, lastTick, 69)},
		noteCase{measure(7, 1, most-64), 9, 64, measure(7, 1, most)},
		noteCase{measure(7, 1, most-63), 9, 64, measure(7, 1, most)},
		noteCase{measure(7, 1, most-1), 9, 64, measure(7, 1, most)},
		noteCase{measure(7, 1, most), 9, 1, measure(7, 1, most)},
		noteCase{measure(most, 1, most), 16, 0, measure(most, 1, most)},
	)
}

// P12.2: when a period has passed, the average is computed, and the next one begins at now.
func TestNoteAverages(t *testing.T) {
	expectCases(t, api.OK,
		noteCase{measure(256, 0, 0), 16, 32, measure(320, 16, 0)},
		noteCase{measure(256, 0, 31), 16, 1, measure(320, 16, 0)},
		noteCase{measure(256, 0, 32), 16, 0, measure(320, 16, 0)},
		noteCase{measure(256, 0, 0), 16, 0, measure(192, 16, 0)},
		noteCase{measure(256, 0, 0), 16, 16, measure(256, 16, 0)},
		noteCase{measure(256, 0, 0), 17, 32, measure(312, 17, 0)},             // (768 + 481) / 4
		noteCase{measure(256, 100, 32), 131, 32, measure(324, 131, 0)},        // (768 + 528) / 4
		noteCase{measure(256, 100, 64), 132, 0, measure(320, 132, 0)},         // (768 + 512) / 4
		noteCase{measure(256, 0, 0), lastTick, 64, measure(192, lastTick, 0)}, // less than one page in 256 ticks
		noteCase{measure(0, 0, 3906), lastTick, 0, measure(0, lastTick, 0)},
		noteCase{measure(5, 0, 3906), lastTick, 0, measure(3, lastTick, 0)}, // (15 + 0) / 4: a speed that is rounded up would make it 4
		noteCase{measure(5, 0, 3907), lastTick, 0, measure(4, lastTick, 0)}, // (15 + 1) / 4
		noteCase{measure(1, 0, 0), 16, 0, measure(0, 16, 0)},
		noteCase{measure(0, 0, 0), 16, 1, measure(4, 16, 0)},
		noteCase{measure(2, 0, 0), 16, 0, measure(1, 16, 0)},
		noteCase{measure(0, lastTick-16, 0), lastTick, 64, measure(256, lastTick, 0)},
	)
}

// P12.2: neither Avg nor Done grows above its greatest value, and Done is cut ahead of the average.
func TestNoteGreatest(t *testing.T) {
	expectCases(t, api.OK,
		noteCase{measure(most, 0, 0), 16, 0, measure(most/4*3, 16, 0)},
		noteCase{measure(most, 0, most), 16, 0, measure(most, 16, 0)},
		noteCase{measure(most, 0, most), 16, 64, measure(most, 16, 0)},
		noteCase{measure(most-1, 0, most), 255, 0, measure(most, 255, 0)},
		noteCase{measure(most, 0, most), 256, 64, measure(most, 256, 0)},
		noteCase{measure(most, 0, most), 257, 64, measure(255750972, 257, 0)}, // (768000000 + 255003891) / 4
		noteCase{measure(0, 0, most), 16, 64, measure(most, 16, 0)},
		noteCase{measure(0, 0, most), 63, 64, measure(most, 63, 0)},
		noteCase{measure(0, 0, most), 64, 64, measure(most, 64, 0)},
		noteCase{measure(0, 0, most-64), 64, 64, measure(most, 64, 0)},
		noteCase{measure(0, 0, most-64), 64, 63, measure(most-1, 64, 0)},
		noteCase{measure(0, 0, most), 65, 64, measure(252061538, 65, 0)}, // 1008246153 / 4
		noteCase{measure(0, 0, most), lastTick, 64, measure(16384, lastTick, 0)},
		noteCase{measure(0, 0, most-1), lastTick, 64, measure(16384, lastTick, 0)},
		noteCase{measure(0, 0, most-1), lastTick, 0, measure(16383, lastTick, 0)}, // 65535 / 4
	)
}

// P12.2: a measure that is not right is returned as it is, ahead of what else is wrong.
func TestNoteInvalid(t *testing.T) {
	for _, m := range badMeasures() {
		expectCases(t, api.ErrInvalid, noteCase{m, 16, 32, m}, noteCase{m, m.Stamp, 0, m}, noteCase{m, -1, 1, m}, noteCase{m, math.MinInt, math.MaxInt, m}, noteCase{m, 16, 65, m}, noteCase{m, lastTick + 1, -1, m})
	}
}

// P12.2: ticks and pages out of range leave the measure as it is.
func TestNoteRange(t *testing.T) {
	for _, m := range []api.Measure{{}, measure(256, 5, 7), measure(3, 40, 9), measure(most, lastTick, most)} {
		for _, now := range append([]int{m.Stamp - 1, m.Stamp - 16}, farTicks...) {
			expectCases(t, api.ErrRange, noteCase{m, now, 1, m}, noteCase{m, now, -1, m}, noteCase{m, now, 65, m})
		}
		for _, pages := range farPages {
			expectCases(t, api.ErrRange, noteCase{m, m.Stamp, pages, m}, noteCase{m, lastTick, pages, m}, noteCase{m, m.Stamp - 1, pages, m})
		}
	}
	expectCases(t, api.ErrRange, noteCase{measure(256, 5, 7), 4, 1, measure(256, 5, 7)}, noteCase{measure(256, 5, 7), 0, 1, measure(256, 5, 7)})
	expectCases(t, api.OK, noteCase{measure(256, 5, 7), 5, 64, measure(256, 5, 71)})
}

// P12.2: all notes of small numbers.
func TestNoteAll(t *testing.T) {
	for _, stamp := range []int{0, 1, 16, 77} {
		for _, avg := range []int{0, 1, 2, 3, 4, 5, 6, 7, 255, 256, 257, 1023} {
			for done := range 6 {
				for now := stamp - 2; now < stamp+36; now++ {
					for pages := -1; pages <= mostPages+1; pages++ {
						expectNote(t, measure(avg, stamp, done), now, pages)
					}
				}
			}
		}
	}
}

// P12.2: all notes of numbers at and beside the edges.
func TestNoteEdges(t *testing.T) {
	for _, avg := range append(speeds(), -1, most+1) {
		for _, done := range append(speeds(), most-64, most-63, most+1, math.MinInt) {
			for _, stamp := range []int{-1, 0, 1, 500, lastTick - 16, lastTick - 15, lastTick - 1, lastTick, lastTick + 1} {
				for _, now := range []int{stamp - 1, stamp, stamp + 15, stamp + 16, stamp + 17, stamp + 63, stamp + 64, stamp + 65, stamp + 256, lastTick - 1, lastTick, lastTick + 1} {
					for _, pages := range []int{-1, 0, 1, 63, 64, 65} {
						expectNote(t, measure(avg, stamp, done), now, pages)
					}
				}
			}
		}
	}
}

// P12.2: long rows of notes, from a start to the last tick.
func TestNoteLong(t *testing.T) {
	r := rand.New(rand.NewSource(12))
	for range 60 {
		now := r.Intn(lastTick + 1)
		m, err := Start(now)
		if err != api.OK {
			t.Fatalf("Start at %d: %d", now, int(err))
		}
		step := []int{1, 3, 15, 40, 5000}[r.Intn(5)]
		for range 2000 {
			now = min(now+r.Intn(step+1), lastTick)
			m = expectNote(t, m, now, r.Intn(mostPages+1))
		}
	}
}

// P12.2 and P12.3: numbers of all sizes, right or not.
func TestNoteAnything(t *testing.T) {
	r := rand.New(rand.NewSource(120))
	number := func() int { return int(r.Uint64()) >> r.Intn(64) }
	for range 200000 {
		m := measure(number(), number(), number())
		expectNote(t, m, number(), number())
		expectNote(t, measure(m.Avg&0xfffffff, m.Stamp&0xfffff, m.Done&0xfffffff), number()&0xfffff, number()&127)
		if !modelRight(m) {
			expectRate(t, m, 1)
		}
	}
}

// P12.3: the rate is Avg, at least 1, whatever Stamp and Done are.
func TestRate(t *testing.T) {
	expectRate(t, api.Measure{}, 1)
	for _, avg := range speeds() {
		want := avg
		if avg == 0 {
			want = 1
		}
		for _, m := range []api.Measure{measure(avg, 0, 0), measure(avg, 5, 77), measure(avg, lastTick, most)} {
			expectRate(t, m, want)
		}
	}
	for _, m := range badMeasures() {
		expectRate(t, m, 1)
	}
}
