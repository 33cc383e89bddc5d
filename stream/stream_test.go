package stream

import (
	"math"
	"slices"
	"testing"

	"pagecache/api"
)

// most is the greatest number of Hits and the greatest Stamp, and pages is how many pages a file can have, in numbers as the limits say them.
const (
	most  = 1000000
	pages = 256
)

// access has the pages from to to - 1.
type access struct{ from, to int }

func fresh(from, to, stamp int) api.Stream {
	return api.Stream{Kind: api.StreamNew, Start: from, End: to, Stamp: stamp}
}

func forward(from, to, hits, stamp int) api.Stream {
	return api.Stream{Kind: api.StreamForward, Start: from, End: to, Hits: hits, Stamp: stamp}
}

func backward(from, to, hits, stamp int) api.Stream {
	return api.Stream{Kind: api.StreamBackward, Start: from, End: to, Hits: hits, Stamp: stamp}
}

func stride(from, to, step, hits, stamp int) api.Stream {
	return api.Stream{Kind: api.StreamStride, Start: from, End: to, Step: step, Hits: hits, Stamp: stamp}
}

// modelAccess is what the chapter calls a valid access.
func modelAccess(a access) bool {
	return 0 <= a.from && a.from < a.to && a.to <= pages
}

// modelStep tells whether a number is one of the steps that strides can have, in a list.
func modelStep(n int) bool {
	return slices.Contains([]int{2, 3, 4, 5, 6, 7, 8, -2, -3, -4, -5, -6, -7, -8}, n)
}

// size is an absolute value; the numbers that it is asked for have one.
func size(n int) int {
	if n < 0 {
		return -n
	}
	return n
}

// modelRight is the chapter's definition of a right stream, one condition after the other.
func modelRight(s api.Stream) bool {
	if !modelAccess(access{s.Start, s.End}) {
		return false
	}
	if s.Kind < 1 || s.Kind > 4 {
		return false
	}
	if s.Hits < 0 || s.Hits > most || s.Stamp < 0 || s.Stamp > most {
		return false
	}
	if s.Kind == 1 && s.Hits != 0 || s.Kind != 1 && s.Hits == 0 {
		return false
	}
	if s.Kind != 4 {
		return s.Step == 0
	}
	return modelStep(s.Step) && s.End-s.Start <= size(s.Step)
}

// modelMatch is the chapter's definition of a match for right streams and valid accesses, kind by kind.
func modelMatch(s api.Stream, a access) (api.Stream, bool) {
	next := s
	next.Start, next.End = a.from, a.to
	if next.Hits < most {
		next.Hits++
	}
	isNew := s.Kind == 1
	if (isNew || s.Kind == 2) && (a.from == s.End || a.from == s.End-1) && a.to > s.End {
		next.Kind = 2
		return next, true
	}
	if (isNew || s.Kind == 3) && (a.to == s.Start || a.to == s.Start+1) && a.from < s.Start {
		next.Kind = 3
		return next, true
	}
	step := a.from - s.Start
	if s.Kind == 4 && step == s.Step && a.to-a.from <= size(step) {
		return next, true
	}
	if isNew && modelStep(step) && size(step) >= s.End-s.Start && a.to-a.from <= size(step) {
		next.Kind, next.Step = 4, step
		return next, true
	}
	if a.from >= s.Start && a.to <= s.End {
		return s, true
	}
	return s, false
}

// modelPredict lists all that the chapter says a right stream leads to, and ends it where it says.
func modelPredict(s api.Stream, n int) []int {
	var all []int
	switch s.Kind {
	case 2:
		for p := s.End; p < s.End+2*pages; p++ {
			all = append(all, p)
		}
	case 3:
		for p := s.Start - 1; p > s.Start-2*pages; p-- {
			all = append(all, p)
		}
	case 4:
		for k := 1; k < 2*pages; k++ {
			for p := s.Start + k*s.Step; p <= s.End-1+k*s.Step; p++ {
				all = append(all, p)
			}
		}
	}
	var l []int
	for _, p := range all {
		if len(l) >= n || p < 0 || p >= pages {
			break
		}
		l = append(l, p)
	}
	return l
}

// rightStreams are streams of all kinds and steps, with accesses of several lengths at several places.
func rightStreams() []api.Stream {
	var l []api.Stream
	for _, start := range []int{0, 1, 2, 7, 8, 9, 20, 100, 240, 247, 253, 254, 255} {
		for _, length := range []int{1, 2, 3, 7, 8, 9, 16, 256} {
			for _, hits := range []int{0, 1, 2, most - 1, most} {
				for kind := 1; kind <= 4; kind++ {
					for step := -8; step <= 8; step++ {
						s := api.Stream{Kind: kind, Start: start, End: start + length, Step: step, Hits: hits, Stamp: 77}
						if modelRight(s) {
							l = append(l, s)
						}
					}
				}
			}
		}
	}
	return l
}

// badStreams are streams that are each wrong in one field, and some that are wrong in more.
func badStreams() []api.Stream {
	var l []api.Stream
	for _, good := range []api.Stream{fresh(10, 12, 5), forward(10, 12, 1, 5), backward(10, 12, 2, 5), stride(10, 12, 2, 3, 5), stride(10, 12, -8, most, 5)} {
		for _, a := range badAccesses() {
			s := good
			s.Start, s.End = a.from, a.to
			l = append(l, s)
		}
		for _, n := range []int{-1, most + 1, math.MinInt, math.MaxInt} {
			s, x := good, good
			s.Hits, x.Stamp = n, n
			l = append(l, s, x)
		}
		for _, kind := range []int{0, 5, -1, -4, 6, 257, math.MinInt, math.MaxInt} {
			s, x := good, good
			s.Kind, x.Kind, x.Hits = kind, kind, 0
			l = append(l, s, x)
		}
	}
	for _, step := range []int{-9, -1, 0, 1, 9, 16, math.MinInt, math.MinInt + 1, math.MaxInt} {
		l = append(l, stride(10, 11, step, 1, 5))
	}
	for _, step := range []int{-8, -2, -1, 1, 2, 8, math.MinInt, math.MaxInt} {
		for _, s := range []api.Stream{fresh(10, 11, 5), forward(10, 11, 1, 5), backward(10, 11, 1, 5)} {
			s.Step = step
			l = append(l, s)
		}
	}
	s := fresh(10, 11, 5)
	for _, hits := range []int{1, 2, most} {
		s.Hits = hits
		l = append(l, s)
	}
	return append(l, api.Stream{}, forward(10, 11, 0, 5), backward(10, 11, 0, 5), stride(10, 11, 2, 0, 5),
		stride(10, 13, 2, 1, 5), stride(10, 13, -2, 1, 5), stride(10, 19, 8, 1, 5), stride(10, 19, -8, 1, 5), stride(0, 256, 8, 1, 5))
}

// badAccesses are accesses that are not valid; the ends of some overflow.
func badAccesses() []access {
	return []access{{-1, 0}, {-1, 1}, {-1, -1}, {-2, -1}, {-1, 256}, {0, 0}, {5, 5}, {10, 10}, {10, 9}, {255, 257}, {255, 255}, {256, 256}, {256, 257}, {0, 257}, {300, 301}, {255, 0},
		{math.MinInt, 1}, {math.MinInt, math.MinInt}, {math.MinInt, math.MaxInt}, {math.MinInt, math.MinInt + 1}, {0, math.MaxInt}, {0, math.MinInt}, {255, math.MaxInt}, {math.MaxInt, math.MaxInt}, {math.MaxInt, math.MinInt}, {math.MaxInt - 1, math.MaxInt}, {math.MaxInt, 1}}
}

func expectMatch(t *testing.T, s api.Stream, a access, want api.Stream, wantOK bool) {
	t.Helper()
	if got, ok := Matches(s, a.from, a.to); got != want || ok != wantOK {
		t.Fatalf("Matches of %+v and %v: %+v %v, want %+v %v", s, a, got, ok, want, wantOK)
	}
}

func expectFeed(t *testing.T, l []api.Stream, a access, want []api.Stream, wantAt int, wantErr api.Errno) {
	t.Helper()
	if got, at, err := Feed(l, a.from, a.to); !slices.Equal(got, want) || at != wantAt || err != wantErr {
		t.Fatalf("Feed of %+v with %v: %+v %d %d, want %+v %d %d", l, a, got, at, int(err), want, wantAt, int(wantErr))
	}
}

// P6.1: lists of one stream, right and not; the model agrees with the lists of the test.
func TestCheckStreams(t *testing.T) {
	for _, s := range rightStreams() {
		if !Check([]api.Stream{s}) {
			t.Fatalf("%+v is right", s)
		}
	}
	for _, s := range badStreams() {
		if modelRight(s) {
			t.Fatalf("the test's own %+v is right", s)
		}
		if Check([]api.Stream{s}) {
			t.Fatalf("%+v is not right", s)
		}
	}
}

// P6.1: all combinations of a few numbers in each field.
func TestCheckFields(t *testing.T) {
	counts := []int{math.MinInt, -1, 0, 1, 2, most - 1, most, most + 1, math.MaxInt}
	n := 0
	for kind := -1; kind <= 6; kind++ {
		for step := -10; step <= 10; step++ {
			for _, start := range []int{-1, 0, 1, 248, 254, 255, 256} {
				for length := -1; length <= 10; length++ {
					for _, hits := range counts {
						for _, stamp := range counts {
							s := api.Stream{Kind: kind, Start: start, End: start + length, Step: step, Hits: hits, Stamp: stamp}
							want := modelRight(s)
							if want {
								n++
							}
							if Check([]api.Stream{s}) != want {
								t.Fatalf("%+v: not %v", s, want)
							}
						}
					}
				}
			}
		}
	}
	if n == 0 {
		t.Error("none was right")
	}
}

// P6.1: how many streams a list has, and their Stamps.
func TestCheckLists(t *testing.T) {
	four := []api.Stream{fresh(0, 1, 0), forward(0, 1, 1, most), backward(9, 12, most, 3), stride(1, 3, -2, 4, 2)}
	for n := range 5 {
		if !Check(four[:n]) {
			t.Errorf("the first %d streams are a right list", n)
		}
	}
	if !Check(nil) || !Check([]api.Stream{}) {
		t.Error("a list without streams is right")
	}
	if Check(append(slices.Clone(four), fresh(4, 5, 7))) {
		t.Error("five streams are too many")
	}
	for i := range four {
		for k := range four {
			l := slices.Clone(four)
			l[i].Stamp = l[k].Stamp
			if Check(l) != (i == k) {
				t.Errorf("the Stamp of %d for %d", k, i)
			}
		}
		for _, bad := range badStreams() {
			bad.Stamp += 10 // so that it has no other one's Stamp
			if modelRight(bad) {
				continue
			}
			l := slices.Clone(four)
			l[i] = bad
			if Check(l) {
				t.Errorf("%+v at %d", bad, i)
			}
		}
	}
	if !Check([]api.Stream{fresh(3, 4, 1), fresh(3, 4, 2)}) {
		t.Error("streams may be at one place")
	}
}

// P6.1: the definition's cases one by one, with the ends of their ranges.
func TestMatchesCases(t *testing.T) {
	for _, c := range []struct {
		s    api.Stream
		a    access
		want api.Stream
	}{
		{fresh(4, 6, 9), access{6, 7}, forward(6, 7, 1, 9)},
		{fresh(4, 6, 9), access{6, 40}, forward(6, 40, 1, 9)}, // also a step of 2, but forward counts first
		{fresh(4, 6, 9), access{6, 8}, forward(6, 8, 1, 9)},
		{fresh(4, 6, 9), access{5, 7}, forward(5, 7, 1, 9)},
		{fresh(4, 5, 9), access{4, 6}, forward(4, 6, 1, 9)},
		{forward(4, 6, 3, 9), access{6, 7}, forward(6, 7, 4, 9)},
		{forward(4, 6, 3, 9), access{5, 256}, forward(5, 256, 4, 9)},
		{fresh(4, 6, 9), access{3, 4}, backward(3, 4, 1, 9)},
		{fresh(4, 6, 9), access{2, 4}, backward(2, 4, 1, 9)}, // also a step of -2
		{fresh(4, 6, 9), access{2, 5}, backward(2, 5, 1, 9)},
		{fresh(4, 5, 9), access{3, 5}, backward(3, 5, 1, 9)},
		{backward(4, 6, 1, 9), access{0, 5}, backward(0, 5, 2, 9)},
		{backward(4, 6, 1, 9), access{3, 4}, backward(3, 4, 2, 9)},
		{fresh(10, 11, 9), access{12, 13}, stride(12, 13, 2, 1, 9)},
		{fresh(10, 11, 9), access{18, 26}, stride(18, 26, 8, 1, 9)},
		{fresh(10, 11, 9), access{8, 9}, stride(8, 9, -2, 1, 9)},
		{fresh(10, 18, 9), access{2, 3}, stride(2, 3, -8, 1, 9)},
		{fresh(10, 11, 9), access{2, 8}, stride(2, 8, -8, 1, 9)},
		{stride(10, 12, 4, 7, 9), access{14, 18}, stride(14, 18, 4, 8, 9)},
		{stride(10, 12, -4, 7, 9), access{6, 10}, stride(6, 10, -4, 8, 9)},
		{fresh(4, 8, 9), access{4, 8}, fresh(4, 8, 9)},
		{fresh(4, 8, 9), access{7, 8}, fresh(4, 8, 9)}, // the last page again is not forward
		{fresh(4, 8, 9), access{4, 5}, fresh(4, 8, 9)},
		{fresh(4, 8, 9), access{6, 7}, fresh(4, 8, 9)}, // less than its length is no stride
		{forward(4, 8, 2, 9), access{5, 7}, forward(4, 8, 2, 9)},
		{backward(4, 8, 2, 9), access{4, 8}, backward(4, 8, 2, 9)},
		{stride(4, 8, 5, 2, 9), access{7, 8}, stride(4, 8, 5, 2, 9)},
		{forward(4, 6, most-1, 9), access{6, 7}, forward(6, 7, most, 9)},
		{forward(4, 6, most, 9), access{6, 7}, forward(6, 7, most, 9)},
		{backward(4, 6, most, 9), access{3, 4}, backward(3, 4, most, 9)},
		{stride(4, 6, 2, most, 9), access{6, 7}, stride(6, 7, 2, most, 9)},
	} {
		expectMatch(t, c.s, c.a, c.want, true)
	}
}

// P6.1: accesses beside those that match; the stream stays.
func TestMatchesNot(t *testing.T) {
	for _, c := range []struct {
		s api.Stream
		a access
	}{
		{forward(4, 6, 1, 9), access{7, 8}}, {forward(4, 6, 1, 9), access{4, 7}}, {forward(4, 6, 1, 9), access{3, 4}}, {forward(4, 6, 1, 9), access{3, 6}}, {forward(4, 6, 1, 9), access{0, 256}},
		{backward(4, 6, 1, 9), access{2, 3}}, {backward(4, 6, 1, 9), access{3, 6}}, {backward(4, 6, 1, 9), access{6, 7}}, {backward(4, 6, 1, 9), access{4, 7}},
		{stride(10, 11, 4, 1, 9), access{14, 19}}, {stride(10, 11, 4, 1, 9), access{13, 14}}, {stride(10, 11, 4, 1, 9), access{15, 16}}, {stride(10, 11, 4, 1, 9), access{6, 7}}, {stride(10, 11, 4, 1, 9), access{18, 19}}, {stride(10, 11, 4, 1, 9), access{11, 12}}, {stride(10, 11, 4, 1, 9), access{9, 10}},
		{fresh(10, 11, 9), access{19, 20}}, {fresh(10, 11, 9), access{1, 2}}, {fresh(10, 11, 9), access{13, 17}}, {fresh(10, 11, 9), access{8, 12}}, {fresh(10, 11, 9), access{9, 12}}, {fresh(10, 20, 9), access{18, 19 + 2}}, {fresh(10, 20, 9), access{2, 3}}, {fresh(10, 19, 9), access{2, 3}}, {fresh(4, 6, 9), access{3, 7}},
		{fresh(10, 14, 9), access{12, 15}}, // the step is less than the length, and the access does not begin at the last page
	} {
		expectMatch(t, c.s, c.a, c.s, false)
	}
}

// P6.1: many streams with all accesses near them, and with some far away, against the model.
func TestMatchesModel(t *testing.T) {
	kinds := map[int]int{}
	for _, s := range rightStreams() {
		for from := max(s.Start-12, 0); from < min(s.End+12, pages); from++ {
			for to := from + 1; to <= min(from+12, pages); to++ {
				want, ok := modelMatch(s, access{from, to})
				expectMatch(t, s, access{from, to}, want, ok)
				if ok {
					kinds[want.Kind]++
				}
			}
			for _, to := range []int{from + 20, s.Start, s.Start + 1, s.End - 1, s.End, s.End + 1, 255, 256} {
				if a := (access{from, to}); modelAccess(a) {
					want, ok := modelMatch(s, a)
					expectMatch(t, s, a, want, ok)
				}
			}
		}
	}
	if len(kinds) != 4 {
		t.Errorf("matches of kinds: %v", kinds)
	}
}

// P6.1: all accesses of a file against some streams.
func TestMatchesAll(t *testing.T) {
	for _, s := range []api.Stream{fresh(100, 103, 1), forward(100, 103, 1, 1), backward(100, 103, 1, 1), stride(100, 103, 5, 1, 1), stride(100, 103, -3, 1, 1), fresh(0, 256, 1), fresh(255, 256, 0), fresh(0, 1, most)} {
		for from := range pages {
			for to := from + 1; to <= pages; to++ {
				want, ok := modelMatch(s, access{from, to})
				expectMatch(t, s, access{from, to}, want, ok)
			}
		}
	}
}

// P6.1: streams and accesses that are not right; the stream stays as it is, whatever it has.
func TestMatchesInvalid(t *testing.T) {
	for _, s := range badStreams() {
		for _, a := range append(badAccesses(), access{10, 11}, access{11, 12}, access{12, 13}, access{9, 10}, access{14, 15}, access{0, 1}, access{0, 256}) {
			expectMatch(t, s, a, s, false)
		}
	}
	for _, s := range rightStreams() {
		for _, a := range badAccesses() {
			expectMatch(t, s, a, s, false)
		}
	}
}

// P6.1: what matches is right again, so that a stream can go on for ever.
func TestMatchesRight(t *testing.T) {
	for _, s := range rightStreams() {
		for from := max(s.Start-9, 0); from < min(s.End+9, pages); from++ {
			for to := from + 1; to <= min(from+10, pages); to++ {
				if got, _ := Matches(s, from, to); !modelRight(got) || got.Stamp != s.Stamp {
					t.Fatalf("%+v and %d to %d: %+v", s, from, to, got)
				}
			}
		}
	}
}
