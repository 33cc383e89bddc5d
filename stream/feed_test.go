package stream

import (
	"math"
	"math/rand"
	"slices"
	"testing"

	"pagecache/api"
)

// modelFeed is P6.2 for right lists, valid accesses and Stamps that do not end: it goes through the orders of the chapter one after the other, and leaves those that are best in each.
func modelFeed(l []api.Stream, a access) ([]api.Stream, int) {
	var left []int
	for i, s := range l {
		if _, ok := modelMatch(s, a); ok {
			left = append(left, i)
		}
	}
	for _, value := range []func(api.Stream) int{
		func(s api.Stream) int {
			if s.Kind == 1 {
				return 0
			}
			return 1
		},
		func(s api.Stream) int { return s.Hits },
		func(s api.Stream) int { return s.Stamp },
	} {
		var best []int
		for _, i := range left {
			if len(best) > 0 && value(l[i]) > value(l[best[0]]) {
				best = nil
			}
			if len(best) == 0 || value(l[i]) == value(l[best[0]]) {
				best = append(best, i)
			}
		}
		left = best
	}
	stamp, least := 0, 0
	for i, s := range l {
		if s.Stamp > stamp {
			stamp = s.Stamp
		}
		if s.Stamp < l[least].Stamp {
			least = i
		}
	}
	got := append([]api.Stream{}, l...)
	if len(left) == 1 {
		s, _ := modelMatch(l[left[0]], a)
		s.Stamp = stamp + 1
		got[left[0]] = s
		return got, left[0]
	}
	s := fresh(a.from, a.to, stamp+1)
	if len(l) == 4 {
		got[least] = s
		return got, least
	}
	return append(got, s), len(l)
}

// feedAll feeds accesses, and returns the last list.
func feedAll(t *testing.T, l []api.Stream, accesses ...access) []api.Stream {
	t.Helper()
	for _, a := range accesses {
		next, at, err := Feed(l, a.from, a.to)
		if err != api.OK || at < 0 || at >= len(next) || !Check(next) || next[at].Start > a.from || next[at].End < a.to {
			t.Fatalf("Feed of %+v with %v: %+v %d %v", l, a, next, at, err)
		}
		l = next
	}
	return l
}

// Examples 1 and 2.
func TestExamples(t *testing.T) {
	for _, c := range []struct {
		l    []access
		want api.Stream
		next []int
	}{
		{[]access{{0, 1}, {1, 2}, {2, 3}}, forward(2, 3, 2, 3), []int{3, 4, 5}},
		{[]access{{0, 1}, {4, 5}, {8, 9}}, stride(8, 9, 4, 2, 3), []int{12, 16, 20}},
		{[]access{{7, 8}, {6, 7}, {5, 6}}, backward(5, 6, 2, 3), []int{4, 3, 2}},
		{[]access{{30, 32}, {27, 28}, {24, 26}}, stride(24, 26, -3, 2, 3), []int{21, 22, 18}},
		{[]access{{4, 6}, {5, 9}, {9, 10}, {9, 10}}, forward(9, 10, 2, 4), []int{10, 11, 12}},
	} {
		l := feedAll(t, nil, c.l...)
		if len(l) != 1 || l[0] != c.want || !Sure(l[0]) {
			t.Errorf("%v: %+v, want %+v", c.l, l, c.want)
		}
		if got := Predict(l[0], 3); !slices.Equal(got, c.next) {
			t.Errorf("%v: next %v, want %v", c.l, got, c.next)
		}
	}
}

// P6.2: a stream that is added has the kind of a new one, and stands at the end while there is room.
func TestFeedAdds(t *testing.T) {
	expectFeed(t, nil, access{0, 256}, []api.Stream{fresh(0, 256, 1)}, 0, api.OK)
	expectFeed(t, []api.Stream{}, access{255, 256}, []api.Stream{fresh(255, 256, 1)}, 0, api.OK)
	expectFeed(t, []api.Stream{fresh(5, 6, 0)}, access{50, 51}, []api.Stream{fresh(5, 6, 0), fresh(50, 51, 1)}, 1, api.OK)
	l := []api.Stream{forward(5, 6, 8, 40), backward(90, 91, 3, 7)}
	expectFeed(t, l, access{50, 51}, append(slices.Clone(l), fresh(50, 51, 41)), 2, api.OK)
	l = append(l, stride(200, 202, 6, 1, 41))
	expectFeed(t, l, access{50, 51}, append(slices.Clone(l), fresh(50, 51, 42)), 3, api.OK)
}

// P6.2: if there is no room, the stream with the least Stamp goes, wherever it stands and however sure it is.
func TestFeedReplaces(t *testing.T) {
	l := []api.Stream{forward(5, 6, 8, 0), backward(90, 91, 3, 7), fresh(150, 151, 9), stride(200, 202, 6, 1, 12)}
	for range 4 {
		for i, s := range l {
			if s.Stamp != 0 {
				continue
			}
			want := slices.Clone(l)
			want[i] = fresh(50, 53, 13)
			expectFeed(t, l, access{50, 53}, want, i, api.OK)
		}
		l = append(l[1:], l[0])
	}
}

// P6.2: the stream of an access gets a new Stamp, also if it is matched again.
func TestFeedStamps(t *testing.T) {
	l := []api.Stream{forward(5, 7, 8, 3), backward(90, 91, 3, 7), fresh(150, 151, 2)}
	expectFeed(t, l, access{7, 8}, []api.Stream{forward(7, 8, 9, 8), l[1], l[2]}, 0, api.OK)
	expectFeed(t, l, access{6, 7}, []api.Stream{forward(5, 7, 8, 8), l[1], l[2]}, 0, api.OK)
	expectFeed(t, l, access{89, 90}, []api.Stream{l[0], backward(89, 90, 4, 8), l[2]}, 1, api.OK)
	expectFeed(t, l, access{150, 151}, []api.Stream{l[0], l[1], fresh(150, 151, 8)}, 2, api.OK)
	expectFeed(t, l, access{154, 155}, []api.Stream{l[0], l[1], stride(154, 155, 4, 1, 8)}, 2, api.OK)
	expectFeed(t, []api.Stream{fresh(1, 2, most-1)}, access{2, 3}, []api.Stream{forward(2, 3, 1, most)}, 0, api.OK)
	expectFeed(t, []api.Stream{forward(1, 2, most, 4)}, access{2, 3}, []api.Stream{forward(2, 3, most, 5)}, 0, api.OK)
}

// P6.2: which one of several streams gets an access. The first one of each pair does, in either order.
func TestFeedChooses(t *testing.T) {
	for _, c := range []struct {
		first, second api.Stream
		a             access
		want          api.Stream
	}{
		{forward(4, 6, 1, 1), fresh(4, 6, 2), access{6, 7}, forward(6, 7, 2, 3)},     // not new before new, whatever the Stamps are
		{forward(6, 7, 1, 1), fresh(4, 6, 2), access{6, 7}, forward(6, 7, 1, 3)},     // also if it is matched again, and the other one would go on
		{stride(2, 3, 4, 1, 1), fresh(5, 6, 2), access{6, 7}, stride(6, 7, 4, 2, 3)}, // also if the kinds differ
		{backward(7, 9, 1, 1), fresh(5, 6, 2), access{6, 7}, backward(6, 7, 2, 3)},
		{forward(4, 6, 3, 1), forward(5, 6, 2, 2), access{6, 7}, forward(6, 7, 4, 3)}, // the greater Hits
		{backward(7, 9, 3, 1), forward(5, 6, 2, 2), access{6, 7}, backward(6, 7, 4, 3)},
		{stride(9, 10, -3, 3, 1), backward(7, 9, 2, 2), access{6, 7}, stride(6, 7, -3, 4, 3)},
		{forward(4, 8, 3, 1), forward(5, 6, 2, 2), access{6, 7}, forward(4, 8, 3, 3)}, // the Hits that they have had ahead of the access
		{forward(4, 8, 3, 2), forward(5, 6, 3, 1), access{6, 7}, forward(4, 8, 3, 3)},
		{forward(5, 6, 3, 2), forward(4, 8, 3, 1), access{6, 7}, forward(6, 7, 4, 3)},
		{forward(4, 6, most, 1), forward(5, 6, most-1, 2), access{6, 7}, forward(6, 7, most, 3)},
		{forward(4, 6, most, 2), forward(5, 6, most, 1), access{6, 7}, forward(6, 7, most, 3)},
		{forward(4, 6, 2, 2), forward(5, 6, 2, 1), access{6, 7}, forward(6, 7, 3, 3)}, // the greater Stamp
		{fresh(4, 6, 2), fresh(7, 9, 1), access{6, 7}, forward(6, 7, 1, 3)},
		{fresh(7, 9, 2), fresh(4, 6, 1), access{6, 7}, backward(6, 7, 1, 3)},
		{fresh(2, 3, 2), fresh(4, 6, 1), access{6, 7}, stride(6, 7, 4, 1, 3)},
		{fresh(5, 8, 2), fresh(4, 6, 1), access{6, 7}, fresh(5, 8, 3)},
		{fresh(4, 6, 2), fresh(5, 8, 1), access{6, 7}, forward(6, 7, 1, 3)},
	} {
		expectFeed(t, []api.Stream{c.first, c.second}, c.a, []api.Stream{c.want, c.second}, 0, api.OK)
		expectFeed(t, []api.Stream{c.second, c.first}, c.a, []api.Stream{c.second, c.want}, 1, api.OK)
		others := []api.Stream{fresh(100, 101, 0), c.second, c.first}
		expectFeed(t, others, c.a, []api.Stream{others[0], c.second, c.want}, 2, api.OK)
	}
}

// P6.2: all lists of three of some streams that are close to each other, with the accesses there, against the model.
func TestFeedModel(t *testing.T) {
	some := []api.Stream{fresh(4, 5, 0), fresh(3, 6, 0), fresh(7, 8, 0), forward(4, 5, 1, 0), forward(3, 7, 2, 0), backward(7, 9, 1, 0), backward(6, 8, 2, 0), stride(2, 4, 3, 1, 0), stride(9, 10, -3, 2, 0), fresh(60, 61, 0)}
	for _, x := range some {
		for _, y := range some {
			for _, z := range some {
				for _, stamps := range [][3]int{{0, 1, 2}, {5, 3, 9}, {20, 10, 0}} {
					x.Stamp, y.Stamp, z.Stamp = stamps[0], stamps[1], stamps[2]
					l := []api.Stream{x, y, z}
					for from := range 12 {
						for to := from + 1; to < from+5; to++ {
							want, at := modelFeed(l, access{from, to})
							expectFeed(t, l, access{from, to}, want, at, api.OK)
						}
					}
				}
			}
		}
	}
}

// P6.2: long rows of accesses in a few pages, where streams cross and replace each other.
func TestFeedRows(t *testing.T) {
	r := rand.New(rand.NewSource(6))
	for _, width := range []int{6, 12, 30, 100, 256} {
		for range 200 {
			var l []api.Stream
			at := access{0, 1}
			for range 100 {
				if r.Intn(3) > 0 {
					from := r.Intn(width)
					at = access{from, min(from+1+r.Intn(5), width)}
				} else if at.to < width {
					at = access{at.to - r.Intn(2), at.to + 1}
				}
				want, index := modelFeed(l, at)
				expectFeed(t, l, at, want, index, api.OK)
				if !Check(want) {
					t.Fatalf("%+v is not right", want)
				}
				l = want
			}
		}
	}
}

// P6.2: lists that are not right, accesses that are not valid, and Stamps that end, in this order; the list stays.
func TestFeedErrors(t *testing.T) {
	good := []api.Stream{fresh(5, 6, 1), forward(50, 51, 2, most-1)}
	full := []api.Stream{fresh(5, 6, 1), forward(50, 51, 2, most), fresh(80, 81, 3)}
	four := []api.Stream{fresh(5, 6, 1), fresh(25, 26, 2), fresh(45, 46, 3), fresh(65, 66, 4)}
	five := append(slices.Clone(four), fresh(85, 86, 5))
	twice := []api.Stream{fresh(5, 6, 1), fresh(25, 26, 1)}
	fullTwice := []api.Stream{fresh(5, 6, most), fresh(25, 26, most)}
	ok := []access{{6, 7}, {51, 52}, {5, 6}, {200, 201}, {0, 256}}
	for _, l := range [][]api.Stream{five, twice, fullTwice, append(slices.Clone(full), api.Stream{})} {
		for _, a := range append(badAccesses(), ok...) {
			expectFeed(t, l, a, l, 0, api.ErrInvalid)
		}
	}
	for _, s := range badStreams() {
		for _, a := range append(badAccesses(), ok...) {
			expectFeed(t, []api.Stream{s}, a, []api.Stream{s}, 0, api.ErrInvalid)
			expectFeed(t, []api.Stream{good[0], s}, a, []api.Stream{good[0], s}, 0, api.ErrInvalid)
		}
	}
	for _, a := range badAccesses() {
		for _, l := range [][]api.Stream{nil, good, full, four} {
			expectFeed(t, l, a, l, 0, api.ErrRange)
		}
	}
	for _, a := range ok {
		expectFeed(t, full, a, full, 0, api.ErrFull)
		expectFeed(t, full[1:2], a, full[1:2], 0, api.ErrFull)
		if _, _, err := Feed(good, a.from, a.to); err != api.OK {
			t.Errorf("%v: %v, though there is a Stamp left", a, err)
		}
	}
}

// R2: the arguments stay as they are, even where their slices have room behind them, and no result shares memory with them.
func TestArguments(t *testing.T) {
	behind := []api.Stream{fresh(5, 6, 1), forward(50, 51, 2, 2), fresh(80, 81, 3), fresh(99, 100, 4), fresh(120, 121, 5), fresh(140, 141, 6)}
	kept := slices.Clone(behind)
	for n := range 6 { // the last list is not right
		for _, a := range []access{{6, 7}, {51, 52}, {81, 82}, {5, 6}, {200, 201}, {math.MinInt, 0}} {
			l := behind[:n]
			got, _, _ := Feed(l, a.from, a.to)
			for i := range got {
				got[i] = api.Stream{Kind: 99}
			}
			_ = append(got, api.Stream{Kind: 98})
			Check(l)
			if !slices.Equal(behind, kept) {
				t.Fatalf("%d streams, %v: the list is %+v", n, a, behind)
			}
		}
	}
}
