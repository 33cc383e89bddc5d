package readahead

import (
	"math"
	"slices"
	"testing"

	"pagecache/api"
	"pagecache/stream"
)

// plan is what Plan answers.
type plan struct {
	w     api.Window
	pages []int
	err   api.Errno
}

func forward(from, to, hits int) api.Stream {
	return api.Stream{Kind: api.StreamForward, Start: from, End: to, Hits: hits, Stamp: 3}
}

func backward(from, to, hits int) api.Stream {
	return api.Stream{Kind: api.StreamBackward, Start: from, End: to, Hits: hits, Stamp: 3}
}

func stride(from, to, step, hits int) api.Stream {
	return api.Stream{Kind: api.StreamStride, Start: from, End: to, Step: step, Hits: hits, Stamp: 3}
}

func fresh(from, to int) api.Stream {
	return api.Stream{Kind: api.StreamNew, Start: from, End: to, Stamp: 3}
}

func expectPlan(t *testing.T, w api.Window, s api.Stream, from, to, end int, want plan) {
	t.Helper()
	got, l, err := Plan(w, s, from, to, end)
	if got != want.w || !slices.Equal(l, want.pages) || err != want.err {
		t.Fatalf("%+v with %+v, the access from %d to %d, end %d: %+v %v %v, want %+v", w, s, from, to, end, got, l, err, want)
	}
}

// modelPages are the pages of a window.
func modelPages(w api.Window) []int {
	var l []int
	for i := range w.Size {
		l = append(l, w.Start+i)
	}
	return l
}

// modelFirst and modelGrown are lists of the sizes of right windows: of the first ones by the pages of an access, which are from 1 on, and of the next ones by their sizes.
func modelFirst(n int) int {
	return append([]int{0, 2, 4, 8}, slices.Repeat([]int{8}, pages)...)[n]
}

func modelGrown(size int) int {
	return []int{1, 2, 4, 6, 8, 8, 8, 8, 8}[size]
}

// modelForward is case 2 of P7.2, by lists of pages: the new window, or none if the old one stays.
func modelForward(w api.Window, from, to int) []api.Window {
	var access []int
	for p := from; p < to; p++ {
		access = append(access, p)
	}
	own := modelPages(w)
	if w.Size > 0 {
		asks := own[len(own)-1:]
		if w.Async > 0 {
			asks = append(slices.Clone(asks), own[len(own)-w.Async])
		}
		if slices.ContainsFunc(asks, func(p int) bool { return slices.Contains(access, p) }) {
			size := modelGrown(w.Size)
			return []api.Window{window(slices.Max([]int{own[len(own)-1] + 1, to}), size, size)}
		}
	}
	near := false
	for p := w.Start - w.Size; p <= w.Start+w.Size; p++ {
		near = near || slices.Contains(access, p)
	}
	if w == (api.Window{}) || !near {
		size := modelFirst(to - from)
		return []api.Window{window(to, size, size)}
	}
	return nil
}

// modelPlan is P7.2 for right windows and streams, and valid accesses and ends.
func modelPlan(w api.Window, s api.Stream, from, to, end int) plan {
	if s.Hits < 2 {
		return plan{}
	}
	if s.Kind != 2 {
		return plan{pages: modelLeft(stream.Predict(s, modelFirst(to-from)), end)}
	}
	for _, next := range modelForward(w, from, to) {
		if l := modelLeft(modelPages(next), end); len(l) > 0 {
			return plan{w: next, pages: l}
		}
	}
	return plan{w: w}
}

// modelLeft are the pages that a file of end pages has.
func modelLeft(l []int, end int) []int {
	var left []int
	for _, p := range l {
		if p < end {
			left = append(left, p)
		}
	}
	return left
}

// Example 1.
func TestExample(t *testing.T) {
	expectPlan(t, api.Window{}, forward(2, 3, 2), 2, 3, 8, plan{w: window(3, 2, 2), pages: []int{3, 4}})
	expectPlan(t, window(3, 2, 2), forward(3, 4, 3), 3, 4, 8, plan{w: window(5, 4, 4), pages: []int{5, 6, 7}})
	expectPlan(t, window(3, 2, 2), forward(3, 4, 3), 3, 4, 20, plan{w: window(5, 4, 4), pages: []int{5, 6, 7, 8}})
}

// P7.2, case 1: streams that are not sure lose their window.
func TestPlanNotSure(t *testing.T) {
	for _, s := range []api.Stream{fresh(4, 5), forward(4, 5, 1), backward(4, 5, 1), stride(4, 5, 3, 1), stride(4, 5, -2, 1)} {
		for _, w := range []api.Window{{}, window(4, 4, 4), window(1, 4, 1), window(200, 8, 0)} {
			for _, end := range []int{0, 4, 5, 20, 256} {
				expectPlan(t, w, s, 4, 5, end, plan{})
			}
		}
	}
}

// newCase is a forward access that leads from a window to a new one.
type newCase struct {
	w        api.Window
	from, to int
	want     api.Window
}

// expectNew checks that accesses to a file of all pages lead to new windows and to all their pages.
func expectNew(t *testing.T, l []newCase) {
	t.Helper()
	for _, c := range l {
		expectPlan(t, c.w, forward(c.from, c.to, 2), c.from, c.to, 256, plan{w: c.want, pages: modelPages(c.want)})
	}
}

// P7.2, case 2: the marker and the last page of a window lead to the next one.
func TestPlanNext(t *testing.T) {
	expectNew(t, []newCase{
		{window(10, 4, 4), 10, 11, window(14, 8, 8)}, // the marker
		{window(10, 4, 2), 12, 13, window(14, 8, 8)},
		{window(10, 4, 1), 13, 14, window(14, 8, 8)},
		{window(10, 4, 4), 13, 14, window(14, 8, 8)}, // the last page
		{window(10, 4, 0), 13, 14, window(14, 8, 8)},
		{window(10, 1, 0), 10, 11, window(11, 2, 2)},
		{window(10, 3, 3), 10, 11, window(13, 6, 6)},
		{window(10, 5, 5), 10, 11, window(15, 8, 8)},
		{window(10, 8, 8), 10, 11, window(18, 8, 8)},
		{window(10, 4, 4), 9, 11, window(14, 8, 8)}, // one of several pages
		{window(10, 4, 2), 9, 13, window(14, 8, 8)},
		{window(10, 4, 0), 11, 14, window(14, 8, 8)},
		{window(10, 4, 0), 13, 15, window(15, 8, 8)}, // but not before the end of the access
		{window(10, 2, 2), 10, 16, window(16, 4, 4)},
		{window(10, 2, 2), 0, 40, window(40, 4, 4)},
		{window(0, 1, 1), 0, 1, window(1, 2, 2)},
		{window(240, 8, 8), 240, 241, window(248, 8, 8)},
	})
}

// P7.2, case 2: accesses far from a window, or without one, begin a first window.
func TestPlanFirst(t *testing.T) {
	expectNew(t, []newCase{
		{api.Window{}, 0, 1, window(1, 2, 2)},
		{api.Window{}, 7, 9, window(9, 4, 4)},
		{api.Window{}, 7, 10, window(10, 8, 8)},
		{api.Window{}, 7, 90, window(90, 8, 8)},
		{window(20, 4, 4), 15, 16, window(16, 2, 2)}, // just in front of all that is near
		{window(20, 4, 4), 12, 16, window(16, 8, 8)},
		{window(20, 4, 4), 25, 26, window(26, 2, 2)}, // just behind it
		{window(20, 4, 0), 25, 27, window(27, 4, 4)},
		{window(20, 1, 0), 22, 23, window(23, 2, 2)},
		{window(20, 1, 0), 18, 19, window(19, 2, 2)},
		{window(20, 4, 4), 200, 203, window(203, 8, 8)},
		{window(20, 8, 8), 0, 2, window(2, 4, 4)},
	})
}

// P7.2, case 2: a window stays for accesses near it that ask for nothing.
func TestPlanStays(t *testing.T) {
	for _, c := range []struct {
		w        api.Window
		from, to int
	}{
		{window(20, 4, 4), 16, 17}, // the first page that is near
		{window(20, 4, 4), 10, 17},
		{window(20, 4, 4), 24, 25}, // the last one
		{window(20, 4, 4), 24, 60},
		{window(20, 4, 4), 19, 20},
		{window(20, 4, 4), 21, 23},
		{window(20, 4, 2), 20, 22},
		{window(20, 4, 0), 20, 23},
		{window(20, 1, 0), 19, 20},
		{window(20, 1, 0), 21, 22},
	} {
		for _, end := range []int{0, 20, 30, 256} {
			expectPlan(t, c.w, forward(c.from, c.to, 2), c.from, c.to, end, plan{w: c.w})
		}
	}
}

// P7.2: the end of the file cuts the pages and not the window, and the old window stays if nothing is left.
func TestPlanEnd(t *testing.T) {
	for _, c := range []struct {
		w        api.Window
		from, to int
		end      int
		want     plan
	}{
		{window(10, 4, 4), 10, 11, 16, plan{w: window(14, 8, 8), pages: []int{14, 15}}},
		{window(10, 4, 4), 10, 11, 15, plan{w: window(14, 8, 8), pages: []int{14}}},
		{window(10, 4, 4), 10, 11, 14, plan{w: window(10, 4, 4)}},
		{window(10, 4, 4), 10, 11, 0, plan{w: window(10, 4, 4)}},
		{window(10, 4, 0), 13, 17, 17, plan{w: window(10, 4, 0)}}, // the new window would begin behind the access
		{api.Window{}, 10, 11, 12, plan{w: window(11, 2, 2), pages: []int{11}}},
		{api.Window{}, 10, 11, 11, plan{}},
		{api.Window{}, 255, 256, 256, plan{}},
		{window(10, 4, 4), 254, 255, 256, plan{w: window(255, 2, 2), pages: []int{255}}},
		{window(10, 4, 4), 254, 256, 256, plan{w: window(10, 4, 4)}},
		{window(252, 4, 4), 252, 253, 256, plan{w: window(252, 4, 4)}},
		{window(255, 8, 1), 255, 256, 256, plan{w: window(255, 8, 1)}},
	} {
		expectPlan(t, c.w, forward(c.from, c.to, 2), c.from, c.to, c.end, c.want)
	}
}

// P7.2, case 3: backward streams and strides, whose window is zero also if there are no pages.
func TestPlanOthers(t *testing.T) {
	for _, c := range []struct {
		s        api.Stream
		from, to int
		end      int
		want     []int
	}{
		{backward(20, 21, 2), 20, 21, 256, []int{19, 18}},
		{backward(20, 22, 2), 20, 22, 256, []int{19, 18, 17, 16}},
		{backward(20, 23, 2), 20, 23, 256, []int{19, 18, 17, 16, 15, 14, 13, 12}},
		{backward(20, 200, 2), 20, 200, 256, []int{19, 18, 17, 16, 15, 14, 13, 12}},
		{backward(1, 4, 2), 1, 4, 256, []int{0}},
		{backward(0, 4, 2), 0, 4, 256, nil},
		{backward(20, 22, 2), 20, 22, 18, []int{17, 16}},
		{backward(20, 22, 2), 20, 22, 16, nil},
		{backward(20, 28, 2), 24, 25, 256, []int{19, 18}}, // an access that the stream has had before
		{stride(20, 21, 4, 2), 20, 21, 256, []int{24, 28}},
		{stride(20, 22, 4, 2), 20, 22, 256, []int{24, 25, 28, 29}},
		{stride(20, 22, 4, 2), 20, 22, 29, []int{24, 25, 28}},
		{stride(20, 22, 4, 2), 20, 22, 24, nil},
		{stride(20, 21, -4, 2), 20, 21, 256, []int{16, 12}},
		{stride(20, 22, -4, 2), 20, 22, 17, []int{16, 12, 13}},
		{stride(4, 5, -4, 2), 4, 5, 256, []int{0}},
		{stride(250, 251, 4, 2), 250, 251, 256, []int{254}},
		{stride(250, 251, 8, 2), 250, 251, 256, nil},
	} {
		for _, w := range []api.Window{{}, window(20, 4, 4), window(19, 1, 0), window(100, 8, 3)} {
			expectPlan(t, w, c.s, c.from, c.to, c.end, plan{pages: c.want})
		}
	}
}

// P7.2: all windows of some places, with the accesses on, near and far from them, and the ends around.
func TestPlanModel(t *testing.T) {
	for _, start := range []int{0, 1, 5, 60, 247, 250, 255} {
		for _, w := range append(windowsAt(start), api.Window{}) {
			for from := max(0, start-14); from < min(pages, start+14); from++ {
				for _, to := range []int{from + 1, from + 2, from + 3, from + 4, from + 9, from + 30} {
					if to <= pages {
						expectEnds(t, w, from, to)
					}
				}
			}
		}
	}
}

// expectEnds compares the plans for a forward stream with the model, for ends around the access and the pages behind it.
func expectEnds(t *testing.T, w api.Window, from, to int) {
	t.Helper()
	s := forward(from, to, 2)
	for _, end := range []int{0, from, to - 1, to, to + 1, to + 2, to + 5, to + 9, w.Start, w.Start + w.Size, w.Start + w.Size + 1, w.Start + w.Size + 4, pages} {
		if end >= 0 && end <= pages {
			expectPlan(t, w, s, from, to, end, modelPlan(w, s, from, to, end))
		}
	}
}

// P7.2: streams of all kinds, sure and not, with their last accesses, and with the last page of these, which is matched again.
func TestPlanStreams(t *testing.T) {
	for start := range pages {
		if start > 24 && start < 232 {
			continue // far from both ends of all files
		}
		for length := 1; length <= 9; length++ {
			for _, s := range streamsAt(start, start+length) {
				for _, w := range []api.Window{{}, window(start, 4, 4), window(start, 2, 0), window(start/2, 8, 1)} {
					for _, end := range []int{0, start, min(start+length+3, pages), pages} {
						expectPlan(t, w, s, start, start+length, end, modelPlan(w, s, start, start+length, end))
						expectPlan(t, w, s, start+length-1, start+length, end, modelPlan(w, s, start+length-1, start+length, end))
					}
				}
			}
		}
	}
}

// streamsAt are the right streams of all kinds with a last access.
func streamsAt(from, to int) []api.Stream {
	all := []api.Stream{fresh(from, to)}
	for _, hits := range []int{1, 2, 3, 1000000} {
		all = append(all, forward(from, to, hits), backward(from, to, hits))
		for _, step := range []int{2, 3, 5, 8, -2, -3, -5, -8} {
			all = append(all, stride(from, to, step, hits))
		}
	}
	return slices.DeleteFunc(all, func(s api.Stream) bool { return !stream.Check([]api.Stream{s}) })
}

// P7.2: windows and streams that are not right, then accesses that are not valid and ends that no file has.
func TestPlanErrors(t *testing.T) {
	w, s := window(3, 2, 2), forward(3, 4, 3)
	type numbers struct{ from, to, end int }
	good := []numbers{{3, 4, 8}, {0, 256, 256}, {255, 256, 0}, {3, 4, 256}}
	bad := []numbers{
		{3, 3, 8}, {4, 3, 8}, {-1, 4, 8}, {3, 257, 8}, {256, 257, 8}, {-2, -1, 8}, {0, 0, 8}, {256, 256, 8}, {math.MinInt, 4, 8}, {3, math.MaxInt, 8}, {math.MinInt, math.MaxInt, 8}, {math.MaxInt, math.MinInt, 8},
		{3, 4, -1}, {3, 4, 257}, {3, 4, math.MinInt}, {3, 4, math.MaxInt}, {3, 4, 1<<32 + 8}, {-1, -1, -1},
	}
	badStreams := []api.Stream{{}, forward(3, 4, 0), forward(4, 4, 3), forward(-1, 4, 3), forward(3, 257, 3), forward(3, 4, 1000001), forward(3, 4, -1), stride(3, 4, 1, 3), stride(3, 4, 9, 3), stride(3, 7, 2, 3),
		{Kind: api.StreamNew, Start: 3, End: 4, Hits: 2}, {Kind: api.StreamForward, Start: 3, End: 4, Step: 2, Hits: 3}, {Kind: 5, Start: 3, End: 4, Hits: 3}, {Kind: api.StreamForward, Start: 3, End: 4, Hits: 3, Stamp: -1}, {Kind: api.StreamForward, Start: 3, End: 4, Hits: 3, Stamp: 1000001}}
	for _, n := range append(bad, good...) {
		for _, b := range badWindows() {
			for _, other := range append([]api.Stream{s, fresh(3, 4), backward(3, 4, 2)}, badStreams...) {
				expectPlan(t, b, other, n.from, n.to, n.end, plan{err: api.ErrInvalid})
			}
		}
		for _, b := range badStreams {
			expectPlan(t, w, b, n.from, n.to, n.end, plan{err: api.ErrInvalid})
			expectPlan(t, api.Window{}, b, n.from, n.to, n.end, plan{err: api.ErrInvalid})
		}
	}
	for _, other := range streamsAt(3, 4) {
		for _, n := range bad {
			expectPlan(t, w, other, n.from, n.to, n.end, plan{err: api.ErrRange})
			expectPlan(t, api.Window{}, other, n.from, n.to, n.end, plan{err: api.ErrRange})
		}
		for _, n := range good {
			expectPlan(t, w, other, n.from, n.to, n.end, modelPlan(w, other, n.from, n.to, n.end))
		}
	}
}

// R2: nothing is kept between calls, so that a changed list of pages changes no other one.
func TestResults(t *testing.T) {
	for _, s := range []api.Stream{forward(20, 22, 2), backward(20, 22, 2), stride(20, 22, 4, 2)} {
		_, first, _ := Plan(api.Window{}, s, 20, 22, 256)
		kept := slices.Clone(first)
		for i := range first {
			first[i] = -7
		}
		if _, second, _ := Plan(api.Window{}, s, 20, 22, 256); !slices.Equal(second, kept) || len(kept) != 4 {
			t.Errorf("%+v: %v, want %v", s, second, kept)
		}
	}
}
