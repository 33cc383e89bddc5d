package dirty

import (
	"math"
	"slices"
	"testing"

	"pagecache/api"
)

// Example 1, with the pages in one call and in several ones.
func TestExample(t *testing.T) {
	for _, calls := range [][]int{{3}, {1, 1, 1}, {0, 2, 0, 1}} {
		p, err := New(2, 32)
		for _, pages := range calls {
			if err != api.OK {
				t.Fatalf("%v: %d", calls, int(err))
			}
			p, err = Complete(p, 0, pages)
		}
		if want := proportions(32, 29, 3, 0); !same(p, want) || err != api.OK {
			t.Errorf("%v: %+v %d, want %+v", calls, p, int(err), want)
		}
		if first, second := Share(p, 0, 15), Share(p, 1, 15); first != 13 || second != 7 {
			t.Errorf("%v: the shares are %d and %d", calls, first, second)
		}
	}
}

// P13.1: right proportions, from the least ones to the greatest ones, and ones that are not right.
func TestCheckCases(t *testing.T) {
	for _, p := range right() {
		if !Check(p) {
			t.Errorf("%+v is right", p)
		}
	}
	for _, p := range badProportions() {
		if Check(p) {
			t.Errorf("%+v is not right", p)
		}
	}
}

// P13.1: all proportions of numbers at and beside the edges.
func TestCheckAll(t *testing.T) {
	numbers := append([]int{0, 1, 2, 3, 4, 5, most - 1, most}, farNumbers...)
	count := 0
	for _, period := range numbers {
		for _, left := range numbers {
			for _, e := range numbers {
				for _, events := range [][]int{{e}, {0, e}, {e, most}, {0, 1, e}, {0, 1, 2, e}, {e, 1, 2, 3}, {0, 1, 2, 3, e}, {}} {
					p := proportions(period, left, events...)
					want := modelRight(p)
					if Check(p) != want {
						t.Fatalf("%+v: not %v", p, want)
					}
					if want {
						count++
					}
				}
			}
		}
	}
	if count == 0 {
		t.Error("none was right")
	}
}

// P13.1: new proportions of as many devices as there can be, with short and long periods.
func TestNew(t *testing.T) {
	for devices := 1; devices <= mostDevices; devices++ {
		for _, period := range []int{1, 2, 3, 32, 63, 64, 65, most - 1, most} {
			p, err := New(devices, period)
			if want := proportions(period, period, make([]int, devices)...); !same(p, want) || err != api.OK || !Check(p) {
				t.Errorf("New of %d devices with %d: %+v %d", devices, period, p, int(err))
			}
		}
	}
}

// P13.1: devices and periods that there are not.
func TestNewRange(t *testing.T) {
	expect := func(devices, period int) {
		if p, err := New(devices, period); !same(p, api.Proportions{}) || err != api.ErrRange {
			t.Errorf("New of %d devices with %d: %+v %d", devices, period, p, int(err))
		}
	}
	for _, n := range append([]int{0}, farNumbers...) {
		expect(n, n)
		for devices := 1; devices <= mostDevices; devices++ {
			expect(devices, n)
		}
		for _, period := range []int{1, 4, 5, most} {
			expect(n, period)
		}
	}
	for _, devices := range []int{mostDevices + 1, mostDevices + 2, 8, 64, most} {
		expect(devices, 1)
		expect(devices, most)
		expect(devices, 0)
	}
}

// completeCase is a call of Complete that is written down by hand.
type completeCase struct {
	p             api.Proportions
	device, pages int
	want          api.Proportions
}

func expectCases(t *testing.T, cases ...completeCase) {
	t.Helper()
	for _, c := range cases {
		if got, err := Complete(c.p, c.device, c.pages); !same(got, c.want) || err != api.OK {
			t.Errorf("%d pages of device %d to %+v: %+v %d, want %+v", c.pages, c.device, c.p, got, int(err), c.want)
		}
	}
}

// P13.2: within a period, pages are counted only.
func TestCompleteCounts(t *testing.T) {
	expectCases(t,
		completeCase{proportions(32, 32, 0, 0), 0, 3, proportions(32, 29, 3, 0)},
		completeCase{proportions(32, 29, 3, 0), 1, 5, proportions(32, 24, 3, 5)},
		completeCase{proportions(32, 2, 3, 1), 0, 1, proportions(32, 1, 4, 1)},
		completeCase{proportions(32, 1, 3, 1), 0, 0, proportions(32, 1, 3, 1)},
		completeCase{proportions(1, 1, 3), 0, 0, proportions(1, 1, 3)},
		completeCase{proportions(65, 65, 9, 8, 7, 6), 3, 64, proportions(65, 1, 9, 8, 7, 70)},
		completeCase{proportions(most, most, 0, 0, 0), 2, 64, proportions(most, most-64, 0, 0, 64)},
		completeCase{proportions(most, 70, most-1, 4), 0, 3, proportions(most, 67, most, 4)},
		completeCase{proportions(most, 70, most, most), 1, 64, proportions(most, 6, most, most)},
	)
}

// P13.2: with the last page of a period all events are halved, and the next period begins; the pages behind it count in that one.
func TestCompleteHalves(t *testing.T) {
	expectCases(t,
		completeCase{proportions(4, 4, 0, 0), 0, 4, proportions(4, 4, 2, 0)},
		completeCase{proportions(4, 4, 0, 0), 0, 5, proportions(4, 3, 3, 0)},
		completeCase{proportions(4, 4, 0, 0), 0, 8, proportions(4, 4, 3, 0)},
		completeCase{proportions(4, 4, 0, 9), 0, 12, proportions(4, 4, 3, 1)},
		completeCase{proportions(4, 1, 5, 3), 1, 1, proportions(4, 4, 2, 2)},
		completeCase{proportions(4, 1, 5, 3), 1, 2, proportions(4, 3, 2, 3)},
		completeCase{proportions(4, 1, 5, 3, 1, 0), 2, 1, proportions(4, 4, 2, 1, 1, 0)},
		completeCase{proportions(64, 64, 1, 1), 1, 64, proportions(64, 64, 0, 32)},
		completeCase{proportions(1, 1, 0), 0, 64, proportions(1, 1, 0)},
		completeCase{proportions(1, 1, 3, 7), 0, 1, proportions(1, 1, 2, 3)},
		completeCase{proportions(1, 1, 3, 7), 0, 3, proportions(1, 1, 1, 0)},
		completeCase{proportions(most, 1, most, most), 0, 1, proportions(most, most, most/2, most/2)},
		completeCase{proportions(most, 2, most, 1), 0, 2, proportions(most, most, most/2, 0)}, // 500001, if the events grew above their greatest number ahead of the halving
		completeCase{proportions(most, 2, most-1, 1), 0, 2, proportions(most, most, most/2, 0)},
		completeCase{proportions(most, 2, most, 1), 0, 4, proportions(most, most-2, most/2+2, 0)},
	)
}

// P13.2: proportions that are not right are returned as they are, ahead of what else is wrong.
func TestCompleteInvalid(t *testing.T) {
	for _, p := range badProportions() {
		for _, device := range append([]int{0, 1, 3, 4}, farNumbers...) {
			for _, pages := range append([]int{0, 1, 64}, farPages...) {
				if got, err := Complete(p, device, pages); !same(got, p) || err != api.ErrInvalid {
					t.Fatalf("%d pages of device %d to %+v: %+v %d", pages, device, p, got, int(err))
				}
			}
		}
	}
}

// P13.2: devices that there are not, and numbers of pages out of range, leave the proportions as they are.
func TestCompleteRange(t *testing.T) {
	for _, p := range right() {
		expect := func(device, pages int) {
			if got, err := Complete(p, device, pages); !same(got, p) || err != api.ErrRange {
				t.Fatalf("%d pages of device %d to %+v: %+v %d", pages, device, p, got, int(err))
			}
		}
		for _, device := range append([]int{len(p.Events), len(p.Events) + 1, 4, 64}, farNumbers...) {
			for _, pages := range append([]int{0, 1, 64}, farPages...) {
				expect(device, pages)
			}
		}
		for device := range p.Events {
			for _, pages := range farPages {
				expect(device, pages)
			}
		}
	}
}

// P13.2: all pages of all devices, in all periods of few pages.
func TestCompleteAll(t *testing.T) {
	for period := 1; period <= 5; period++ {
		for left := 1; left <= period; left++ {
			for first := range 5 {
				for second := range 5 {
					for _, p := range []api.Proportions{proportions(period, left, first), proportions(period, left, first, second), proportions(period, left, first, 3, second), proportions(period, left, first, second, 0, 7)} {
						for device := -1; device <= len(p.Events); device++ {
							for pages := -1; pages <= 16; pages++ {
								expectComplete(t, p, device, pages)
							}
						}
					}
				}
			}
		}
	}
}

// P13.2: numbers at and beside the edges.
func TestCompleteEdges(t *testing.T) {
	for _, period := range []int{1, 2, 31, 63, 64, 65, 129, most - 1, most} {
		for _, left := range []int{1, 2, 31, 32, 63, 64, 65, period - 1, period, period + 1} {
			for _, e := range []int{-1, 0, 1, most/2 - 1, most / 2, most - 65, most - 64, most - 63, most - 2, most - 1, most, most + 1} {
				for pages := -1; pages <= mostFrames+1; pages++ {
					expectComplete(t, proportions(period, left, e, most), 0, pages)
					expectComplete(t, proportions(period, left, 1, 2, e), 2, pages)
				}
			}
		}
	}
}

// P13.3: limits by hand: hundredths that are rounded down, the least limit, and numbers out of range.
func TestLimitCases(t *testing.T) {
	for _, c := range []struct{ frames, percent, want int }{
		{64, 100, 64}, {64, 99, 63}, {64, 50, 32}, {64, 20, 12}, {64, 11, 7}, {64, 10, 6}, {64, 9, 6}, {64, 1, 6}, {64, 0, 6},
		{33, 40, 13}, {15, 50, 7}, {13, 50, 6}, {10, 50, 6}, {7, 100, 7}, {7, 99, 6}, {6, 100, 6}, {6, 50, 6}, {6, 0, 6},
		{5, 100, 0}, {0, 100, 0}, {-6, 100, 0}, {65, 50, 0}, {128, 50, 0}, {64, 101, 0}, {64, -1, 0}, {6, 101, 0}, {6, -1, 0}, {65, 101, 0},
	} {
		if got := Limit(c.frames, c.percent); got != c.want {
			t.Errorf("%d hundredths of %d frames: %d, want %d", c.percent, c.frames, got, c.want)
		}
	}
}

// P13.3: all limits, and numbers that are far from all frames and hundredths.
func TestLimitAll(t *testing.T) {
	frames := farNumbers
	for n := -70; n <= 140; n++ {
		frames = append(frames, n)
	}
	percents := farNumbers
	for n := -110; n <= 210; n++ {
		percents = append(percents, n)
	}
	for _, f := range frames {
		for _, p := range percents {
			if got, want := Limit(f, p), modelLimit(f, p); got != want {
				t.Fatalf("%d hundredths of %d frames: %d, want %d", p, f, got, want)
			}
		}
	}
}

// P13.3: half of any limit, and nothing of a negative one.
func TestBackground(t *testing.T) {
	for _, c := range []struct{ limit, want int }{
		{0, 0}, {1, 0}, {2, 1}, {3, 1}, {6, 3}, {7, 3}, {15, 7}, {64, 32}, {65, 32}, {most, most / 2}, {most + 1, most / 2}, {-1, 0}, {-2, 0}, {-3, 0}, {-64, 0},
		{math.MaxInt, math.MaxInt / 2}, {math.MaxInt - 1, math.MaxInt / 2}, {math.MinInt, 0}, {math.MinInt + 1, 0},
	} {
		if got := Background(c.limit); got != c.want {
			t.Errorf("Background of %d: %d, want %d", c.limit, got, c.want)
		}
	}
	for half := range 1000 {
		if even, odd := Background(half+half), Background(half+half+1); even != half || odd != half {
			t.Errorf("twice %d, and one more: %d and %d", half, even, odd)
		}
	}
}

// P13.4: shares by hand.
func TestShareCases(t *testing.T) {
	for _, c := range []struct {
		limit  int
		events []int
		want   []int
	}{
		{15, []int{3, 0}, []int{13, 7}},
		{15, []int{0, 0}, []int{10, 10}},
		{15, []int{0}, []int{15}},
		{64, []int{7}, []int{64}},
		{64, []int{most}, []int{64}},
		{64, []int{0, 0, 0, 0}, []int{19, 19, 19, 19}},             // 59 / 4
		{64, []int{most, 0}, []int{63, 5}},                         // 59 * 1000001 / 1000002
		{64, []int{0, most, most, 0}, []int{5, 34, 34, 5}},         // 59 * 1000001 / 2000004
		{64, []int{most, most, most, most}, []int{19, 19, 19, 19}}, // 59 * 1000001 / 4000004
		{25, []int{1, 2, 3}, []int{9, 11, 13}},                     // 20 * 2, 3 and 4 ninths
		{6, []int{0}, []int{6}}, {6, []int{0, 0}, []int{5, 5}}, {6, []int{most, 0}, []int{5, 5}},
		{7, []int{0, 0}, []int{6, 6}}, {7, []int{1, 0}, []int{6, 5}},
		{5, []int{3, 0}, []int{5, 5}}, {4, []int{3, 0}, []int{4, 4}}, {1, []int{0, 9, 0}, []int{1, 1, 1}}, {0, []int{3, 0}, []int{0, 0}}, {5, []int{most}, []int{5}},
		{-1, []int{3, 0}, []int{0, 0}}, {65, []int{3, 0}, []int{0, 0}}, {15, []int{3, -1}, []int{0, 0}}, {15, []int{most + 1, 0}, []int{0, 0}}, {15, []int{0, 0, 0, 0, 0}, []int{0, 0, 0, 0, 0}},
	} {
		for device, want := range c.want {
			if got := Share(proportions(32, 9, c.events...), device, c.limit); got != want {
				t.Errorf("%v: device %d has %d of %d, want %d", c.events, device, got, c.limit, want)
			}
		}
	}
}

// P13.4: all limits for all devices that have completed few pages.
func TestShareAll(t *testing.T) {
	for n := range 6 * 6 * 6 * 6 {
		events := []int{n % 6, n / 6 % 6, n / 36 % 6, n / 216}
		for devices := 1; devices <= mostDevices; devices++ {
			p := proportions(9, 3, events[:devices]...)
			for limit := -1; limit <= mostFrames+1; limit++ {
				for device := -1; device <= devices; device++ {
					expectShare(t, p, device, limit)
				}
			}
		}
	}
}

// P13.4: events of all sizes, and numbers that are far from all devices and limits; Period and Left play no part.
func TestShareEdges(t *testing.T) {
	for _, p := range right() {
		for _, limit := range append([]int{0, 4, 5, 6, 7, 15, 63, 64}, farPages...) {
			for _, device := range append([]int{0, 1, 2, 3, 4, 5}, farNumbers...) {
				expectShare(t, p, device, limit)
				if got, want := Share(proportions(77, 5, p.Events...), device, limit), Share(p, device, limit); got != want {
					t.Fatalf("device %d of %+v: %d of %d, want %d", device, p, got, limit, want)
				}
			}
		}
	}
	for _, p := range badProportions() {
		for _, limit := range append([]int{0, 5, 6, 64}, farPages...) {
			for _, device := range append([]int{0, 1, 4}, farNumbers...) {
				if got := Share(p, device, limit); got != 0 {
					t.Fatalf("Share of device %d of %d in %+v: %d", device, limit, p, got)
				}
			}
		}
	}
}

// withRoom returns proportions with room behind their events, and all of this memory.
func withRoom(p api.Proportions) (api.Proportions, []int) {
	memory := append(slices.Clone(p.Events), 70, 71, 72)
	p.Events = memory[:len(p.Events)]
	return p, memory
}

// R2: the proportions stay as they are, even where there is room behind their events, and results share no memory with them.
func TestArguments(t *testing.T) {
	for _, p := range append(badProportions(), right()...) {
		for _, device := range []int{0, len(p.Events) - 1, len(p.Events), -1} {
			for _, pages := range []int{0, 1, 64, 65} {
				argument, memory := withRoom(p)
				next, _ := Complete(argument, device, pages)
				wipe(next.Events)
				Check(argument)
				Share(argument, device, pages)
				if want := append(slices.Clone(p.Events), 70, 71, 72); !slices.Equal(memory, want) {
					t.Fatalf("%d pages of device %d to %+v: the argument's memory became %v", pages, device, p, memory)
				}
			}
		}
	}
}

// wipe overwrites numbers, and the room behind them.
func wipe(l []int) {
	l = l[:cap(l)]
	for i := range l {
		l[i] = -100
	}
}

// R2: nothing is kept between calls, also not in the memory of a result.
func TestResults(t *testing.T) {
	for devices := 1; devices <= mostDevices; devices++ {
		first, _ := New(devices, 9)
		wipe(first.Events)
		second, err := New(devices, 9)
		if want := proportions(9, 9, make([]int, devices)...); !same(second, want) || err != api.OK {
			t.Errorf("%d devices again: %+v %d", devices, second, int(err))
		}
		third, _ := Complete(second, 0, 4)
		wipe(third.Events)
		expectComplete(t, second, 0, 4)
	}
}
