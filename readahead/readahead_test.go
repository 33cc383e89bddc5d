package readahead

import (
	"math"
	"testing"

	"pagecache/api"
)

// pages is how many pages a file can have, and most how many a window can have, in numbers as the limits say them.
const (
	pages = 256
	most  = 8
)

func window(start, size, async int) api.Window {
	return api.Window{Start: start, Size: size, Async: async}
}

// rightWindows are the zero window and all others that are right.
func rightWindows() []api.Window {
	l := []api.Window{{}}
	for start := range pages {
		l = append(l, windowsAt(start)...)
	}
	return l
}

// windowsAt are all right windows that begin at a page.
func windowsAt(start int) []api.Window {
	var l []api.Window
	for size := 1; size <= most; size++ {
		for async := 0; async <= size; async++ {
			l = append(l, window(start, size, async))
		}
	}
	return l
}

// badWindows are windows that are not right, each for one reason, and some with sums that overflow.
func badWindows() []api.Window {
	return []api.Window{
		window(-1, 4, 2), window(256, 4, 2), window(math.MinInt, 4, 2), window(math.MaxInt, 4, 2), window(1<<32, 4, 2),
		window(3, 9, 2), window(3, -1, 0), window(3, math.MaxInt, 2), window(3, math.MinInt, 0), window(3, 1<<32+1, 1),
		window(3, 4, -1), window(3, 4, 5), window(3, 8, 9), window(3, 1, 2), window(3, 4, math.MaxInt), window(3, 4, math.MinInt),
		window(1, 0, 0), window(255, 0, 0), window(-1, 0, 0), window(256, 0, 0), // no pages, but not the zero window
		window(0, 0, 1), window(0, 0, -1), window(3, 0, 1), window(0, -1, 0), window(0, -1, -1),
		window(math.MaxInt, math.MaxInt, math.MaxInt), window(math.MinInt, math.MinInt, math.MinInt), window(-1, -1, -1),
	}
}

// P7.1: all windows with numbers in and beside the limits.
func TestCheck(t *testing.T) {
	for start := -3; start < pages+3; start++ {
		for size := -3; size < 12; size++ {
			for async := -3; async < 12; async++ {
				want := start >= 0 && start <= 255 && size >= 1 && size <= 8 && async >= 0 && async <= size || start == 0 && size == 0 && async == 0
				if got := Check(window(start, size, async)); got != want {
					t.Fatalf("%d %d %d: %v", start, size, async, got)
				}
			}
		}
	}
}

// P7.1: windows at the limits, and ones that are not right.
func TestCheckCases(t *testing.T) {
	for _, w := range []api.Window{{}, window(0, 1, 0), window(0, 1, 1), window(0, 8, 8), window(255, 8, 8), window(255, 1, 0)} {
		if !Check(w) {
			t.Errorf("%+v is right", w)
		}
	}
	for _, w := range badWindows() {
		if Check(w) {
			t.Errorf("%+v is not right", w)
		}
	}
}

// P7.1: the first sizes, also for no pages and for more than a window has.
func TestFirst(t *testing.T) {
	for _, c := range []struct{ n, want int }{
		{0, 2}, {-1, 2}, {-2, 2}, {-8, 2}, {math.MinInt, 2}, {math.MinInt + 1, 2}, {-1 << 62, 2},
		{1, 2}, {2, 4}, {3, 8}, {4, 8}, {5, 8}, {6, 8}, {7, 8}, {8, 8}, {9, 8}, {16, 8}, {17, 8}, {64, 8}, {256, 8},
		{1 << 31, 8}, {1 << 32, 8}, {1<<32 + 1, 8}, {1 << 62, 8}, {1<<62 + 1, 8}, {math.MaxInt, 8},
	} {
		if got := First(c.n); got != c.want {
			t.Errorf("%d: %d, want %d", c.n, got, c.want)
		}
	}
}

// P7.1: the sizes of next windows, also for sizes that no window has and that overflow when they are doubled.
func TestGrown(t *testing.T) {
	for _, c := range []struct{ size, want int }{
		{1, 2}, {2, 4}, {3, 6}, {4, 8}, {5, 8}, {6, 8}, {7, 8}, {8, 8}, {9, 8}, {256, 8}, {1 << 32, 8},
		{1 << 62, 8}, {1<<62 + 1, 8}, {1<<62 + 3, 8}, {math.MaxInt, 8}, {math.MaxInt - 1, 8},
		{0, 1}, {-1, 1}, {-2, 1}, {-4, 1}, {math.MinInt, 1}, {math.MinInt + 1, 1}, {math.MinInt + 3, 1}, {-1 << 62, 1}, {-1<<62 - 1, 1}, {-1<<62 - 3, 1},
	} {
		if got := Grown(c.size); got != c.want {
			t.Errorf("%d: %d, want %d", c.size, got, c.want)
		}
	}
}

// P7.1: a window that grows ends with the greatest size.
func TestGrownRow(t *testing.T) {
	size := 0
	for _, want := range []int{1, 2, 4, 8, 8, 8} {
		size = Grown(size)
		if size != want {
			t.Errorf("%d, want %d", size, want)
		}
	}
}

// P7.1: the markers of all right windows: as many pages as Async come from the marker on, up to the end of the window.
func TestMarker(t *testing.T) {
	for _, w := range rightWindows() {
		page, ok := Marker(w)
		if ok != (w.Async > 0) || !ok && page != 0 {
			t.Fatalf("%+v: %d %v", w, page, ok)
		}
		if ok && (page < w.Start || len(modelPages(w)[page-w.Start:]) != w.Async) {
			t.Fatalf("%+v: the marker is %d", w, page)
		}
	}
	for _, c := range []struct {
		w    api.Window
		want int
		ok   bool
	}{
		{window(3, 2, 2), 3, true}, {window(5, 4, 4), 5, true}, {window(5, 4, 1), 8, true}, {window(5, 4, 3), 6, true}, {window(0, 1, 1), 0, true}, {window(0, 8, 8), 0, true},
		{window(255, 8, 1), 262, true}, // a window can reach beyond all files
		{window(5, 4, 0), 0, false}, {window(0, 1, 0), 0, false}, {api.Window{}, 0, false},
	} {
		if got, ok := Marker(c.w); got != c.want || ok != c.ok {
			t.Errorf("%+v: %d %v", c.w, got, ok)
		}
	}
}

// P7.1: windows that are not right have no marker.
func TestMarkerNot(t *testing.T) {
	for _, w := range badWindows() {
		if page, ok := Marker(w); ok || page != 0 {
			t.Errorf("%+v: %d %v", w, page, ok)
		}
	}
}
