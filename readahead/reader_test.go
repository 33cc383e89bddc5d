package readahead

import (
	"slices"
	"testing"

	"pagecache/api"
	"pagecache/stream"
)

// access has the pages from to to - 1.
type access struct{ from, to int }

// reader reads a file of end pages. It has what was read ahead for it, in order.
type reader struct {
	end     int
	streams []api.Stream
	window  api.Window
	ahead   []int
}

// turn reads the pages of an access, and returns the stream that it led to and the pages to be read ahead.
func (r *reader) turn(t *testing.T, a access) (api.Stream, []int) {
	t.Helper()
	l, at, err := stream.Feed(r.streams, a.from, a.to)
	if err != api.OK {
		t.Fatalf("Feed of %v: %v", a, err)
	}
	w, next, err := Plan(r.window, l[at], a.from, a.to, r.end)
	if err != api.OK || !Check(w) {
		t.Fatalf("Plan of %v with %+v: %+v %v", a, r.window, w, err)
	}
	r.streams, r.window = l, w
	r.ahead = append(r.ahead, next...)
	return l[at], next
}

// expectPages fails if pages are not all on the right side of an access, or some twice, or too many, or not of the file.
func expectPages(t *testing.T, s api.Stream, a access, end int, l []int) {
	t.Helper()
	before := s.Kind == api.StreamBackward || s.Kind == api.StreamStride && s.Step < 0
	for i, p := range l {
		if p < 0 || p >= end || before && p >= a.from || !before && p < a.to || slices.Contains(l[:i], p) {
			t.Fatalf("%v with %+v, end %d: %v", a, s, end, l)
		}
	}
	if len(l) > most {
		t.Fatalf("%v with %+v: %v", a, s, l)
	}
}

// The consequence: the pages of all plans for the streams that accesses lead to, whatever the window is.
func TestPagesOfPlans(t *testing.T) {
	for _, start := range []int{0, 1, 7, 30, 250, 255} {
		for length := 1; length <= 5; length++ {
			for _, s := range streamsAt(start, start+length) {
				for from := max(0, start-12); from < min(pages, start+20); from++ {
					for to := from + 1; to < min(pages+1, from+6); to++ {
						expectFed(t, s, access{from, to})
					}
				}
			}
		}
	}
}

// expectFed feeds an access to a stream, and checks the pages of the plans with windows around.
func expectFed(t *testing.T, s api.Stream, a access) {
	t.Helper()
	l, at, err := stream.Feed([]api.Stream{s}, a.from, a.to)
	if err != api.OK {
		t.Fatalf("Feed of %+v with %v: %v", s, a, err)
	}
	for _, w := range []api.Window{{}, window(a.from, 4, 4), window(a.from, 1, 0), window(max(0, a.from-3), 8, 8), window(a.to-1, 3, 1), window(0, 8, 8)} {
		for _, end := range []int{0, a.from, a.to, min(a.to+3, pages), pages} {
			_, next, err := Plan(w, l[at], a.from, a.to, end)
			if err != api.OK {
				t.Fatalf("Plan of %v: %v", a, err)
			}
			expectPages(t, l[at], a, end, next)
		}
	}
}

// The consequence: sequential readers with accesses of one length, from all places of files of many sizes, get each page ahead when they are sure, and none twice. The last access can be shorter, because the file ends there.
func TestSequential(t *testing.T) {
	for length := 1; length <= 4; length++ {
		for _, overlap := range []int{0, 1} {
			if length == overlap {
				continue // such a reader does not go on
			}
			for first := range 12 {
				for _, end := range []int{1, 2, 3, 5, 8, 9, 12, 13, 16, 17, 24, 31, 40, 63, 100, 255, 256} {
					readOn(t, first, length, overlap, end)
				}
			}
		}
	}
}

// readOn reads a file from its page first to its end. A reader by bytes may have its last page again, which is the overlap.
func readOn(t *testing.T, first, length, overlap, end int) {
	t.Helper()
	r := reader{end: end}
	var sure int // the first page that is behind the access by which the reader is sure
	for from := first; from+overlap < end; from += length - overlap {
		a := access{from, min(from+length, end)}
		for p := max(from, sure); sure > 0 && p < a.to; p++ {
			if !slices.Contains(r.ahead, p) {
				t.Fatalf("from %d by %d, end %d: the page %d was not read ahead: %v", first, length, end, p, r.ahead)
			}
		}
		s, next := r.turn(t, a)
		expectPages(t, s, a, end, next)
		if sure == 0 && stream.Sure(s) {
			sure = a.to
		}
		if sure == 0 && len(next) > 0 {
			t.Fatalf("from %d by %d, end %d: not sure, but %v", first, length, end, next)
		}
	}
	for i, p := range r.ahead { // all pages from the first one on, in order, so that none is there twice
		if p != r.ahead[0]+i || r.ahead[0] != sure {
			t.Fatalf("from %d by %d, end %d: read ahead: %v", first, length, end, r.ahead)
		}
	}
}

// The windows of a reader by single pages grow up to the greatest size.
func TestWindowsGrow(t *testing.T) {
	r := reader{end: 256}
	var sizes []int
	for p := range 40 {
		old := r.window
		r.turn(t, access{p, p + 1})
		if r.window != old {
			sizes = append(sizes, r.window.Size)
		}
	}
	if !slices.Equal(sizes, []int{2, 4, 8, 8, 8, 8, 8}) {
		t.Errorf("%v", sizes)
	}
}

// Readers that go backward or in strides get pages that they read next.
func TestOtherReaders(t *testing.T) {
	for _, step := range []int{-1, -2, -5, 3, 8} {
		r := reader{end: 256}
		for i := range 12 {
			page := 120 + i*step
			if i > 2 && !slices.Contains(r.ahead, page) {
				t.Errorf("step %d: the page %d was not read ahead: %v", step, page, r.ahead)
			}
			r.turn(t, access{page, page + 1})
			if r.window != (api.Window{}) {
				t.Errorf("step %d: the window is %+v", step, r.window)
			}
		}
	}
}

// A reader that leaves its place loses its window when it is not sure any more, and gets a new one when it is sure again.
func TestReaderLeaves(t *testing.T) {
	r := reader{end: 256}
	for p := range 6 {
		r.turn(t, access{p, p + 1})
	}
	if r.window == (api.Window{}) {
		t.Fatal("no window")
	}
	for i, want := range []api.Window{{}, {}, window(103, 2, 2)} {
		if r.turn(t, access{100 + i, 101 + i}); r.window != want {
			t.Errorf("%d: %+v, want %+v", i, r.window, want)
		}
	}
}
