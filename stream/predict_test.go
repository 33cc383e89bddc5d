package stream

import (
	"math"
	"math/rand"
	"slices"
	"testing"

	"pagecache/api"
)

func expectPredict(t *testing.T, s api.Stream, n int, want []int) {
	t.Helper()
	if got := Predict(s, n); !slices.Equal(got, want) {
		t.Fatalf("Predict %d of %+v: %v, want %v", n, s, got, want)
	}
}

// P6.3: right streams are sure from 2 Hits on, others never.
func TestSure(t *testing.T) {
	for _, s := range rightStreams() {
		if Sure(s) != (s.Hits >= 2) {
			t.Fatalf("Sure of %+v: %v", s, Sure(s))
		}
	}
	for _, s := range badStreams() {
		if Sure(s) {
			t.Fatalf("Sure of %+v", s)
		}
	}
	for hits := range 5 {
		for _, s := range []api.Stream{forward(4, 6, hits, 1), backward(4, 6, hits, 1), stride(4, 6, 2, hits, 1), stride(4, 6, -8, hits, 1)} {
			if Sure(s) != (hits > 1) {
				t.Errorf("Sure of %+v: %v", s, Sure(s))
			}
		}
	}
}

// P6.3: some predictions in full, with the ends of a file.
func TestPredictCases(t *testing.T) {
	for _, c := range []struct {
		s    api.Stream
		n    int
		want []int
	}{
		{forward(2, 3, 1, 1), 3, []int{3, 4, 5}},
		{forward(2, 6, 2, 1), 2, []int{6, 7}},
		{forward(252, 254, 2, 1), 8, []int{254, 255}},
		{forward(255, 256, 2, 1), 8, nil},
		{backward(5, 6, 1, 1), 3, []int{4, 3, 2}},
		{backward(3, 200, 1, 1), 8, []int{2, 1, 0}},
		{backward(0, 2, 1, 1), 8, nil},
		{stride(10, 11, 4, 1, 1), 3, []int{14, 18, 22}},
		{stride(10, 12, 4, 1, 1), 5, []int{14, 15, 18, 19, 22}},
		{stride(10, 14, 4, 1, 1), 6, []int{14, 15, 16, 17, 18, 19}},
		{stride(20, 22, -4, 1, 1), 5, []int{16, 17, 12, 13, 8}},
		{stride(20, 24, -4, 1, 1), 5, []int{16, 17, 18, 19, 12}},
		{stride(248, 251, 6, 1, 1), 8, []int{254, 255}}, // the third page of the next access does not exist
		{stride(248, 249, 8, 1, 1), 8, nil},
		{stride(10, 13, -4, 1, 1), 8, []int{6, 7, 8, 2, 3, 4}}, // 0 is one of the next access, but -2 comes first
		{stride(2, 8, -8, 1, 1), 8, nil},
		{stride(7, 8, -2, 1, 1), 8, []int{5, 3, 1}},
		{stride(8, 9, -2, 1, 1), 8, []int{6, 4, 2, 0}},
	} {
		expectPredict(t, c.s, c.n, c.want)
	}
}

// P6.3: all right streams of the test, with numbers up to more than all pages, against the model.
func TestPredictModel(t *testing.T) {
	for _, s := range rightStreams() {
		for _, n := range []int{0, 1, 2, 3, 5, 8, 100, 255, 256, 257, 1 << 40, math.MaxInt} {
			expectPredict(t, s, n, modelPredict(s, n))
		}
		for _, n := range []int{-1, -2, -256, math.MinInt, math.MinInt + 1} {
			expectPredict(t, s, n, nil)
		}
	}
}

// P6.3: all places of streams of some lengths and steps.
func TestPredictPlaces(t *testing.T) {
	for start := range pages {
		for length := 1; length <= 9; length++ {
			l := []api.Stream{forward(start, start+length, 1, 1), backward(start, start+length, 1, 1)}
			for step := -9; step <= 9; step++ {
				l = append(l, stride(start, start+length, step, 1, 1))
			}
			for _, s := range l {
				if modelRight(s) {
					expectPredict(t, s, 12, modelPredict(s, 12))
					expectPredict(t, s, 256, modelPredict(s, 256))
				}
			}
		}
	}
}

// P6.3: nothing for streams that are new or not right.
func TestPredictNot(t *testing.T) {
	l := append(badStreams(), fresh(4, 5, 1), fresh(0, 1, 0), fresh(3, 90, most))
	for _, s := range l {
		for _, n := range []int{math.MinInt, -1, 0, 1, 8, 256, math.MaxInt} {
			expectPredict(t, s, n, nil)
		}
	}
}

// reader reads a row of accesses one after the other.
type reader struct {
	rows []access
	kind int
	done int
}

// turn lets a reader read its next access, and checks what the consequence says of it.
func (r reader) turn(t *testing.T, l []api.Stream) []api.Stream {
	a := r.rows[r.done]
	next, at, err := Feed(l, a.from, a.to)
	if err != api.OK {
		t.Fatalf("Feed of %+v with %v: %v", l, a, err)
	}
	s := next[at]
	if s.Start != a.from || s.End != a.to || s.Hits != r.done || Sure(s) != (r.done >= 2) || r.done > 0 && s.Kind != r.kind {
		t.Fatalf("the access %d of %v leads to %+v in %+v", r.done, r.rows, s, next)
	}
	if r.done > 2 && !slices.Equal(Predict(l[at], a.to-a.from), r.pages(a)) {
		t.Fatalf("the access %v was predicted as %v", a, Predict(l[at], a.to-a.from))
	}
	return next
}

// pages are the pages of an access in the order in which a stream of the reader's kind has them.
func (r reader) pages(a access) []int {
	var l []int
	for p := a.from; p < a.to; p++ {
		l = append(l, p)
	}
	if r.kind == api.StreamBackward {
		slices.Reverse(l)
	}
	return l
}

// readAll lets readers take turns in all orders.
func readAll(t *testing.T, l []api.Stream, readers []reader) {
	for i, r := range readers {
		if r.done == len(r.rows) {
			continue
		}
		next := r.turn(t, l)
		readers[i].done++
		readAll(t, next, readers)
		readers[i].done--
	}
}

// rowsFrom are accesses of some lengths from a page on, each one behind the one in front of it.
func rowsFrom(from int, lengths []int) []access {
	var rows []access
	for _, n := range lengths {
		rows = append(rows, access{from, from + n})
		from += n
	}
	return rows
}

// rowsDown are accesses of some lengths down to a page, each one in front of the one ahead of it.
func rowsDown(from int, lengths []int) []access {
	l := slices.Clone(lengths)
	slices.Reverse(l)
	rows := rowsFrom(from, l)
	slices.Reverse(rows)
	return rows
}

// The consequence: up to four sequential readers, as close to each other as they may be, in all orders. All pages of two of them are more than MaxStride apart.
func TestReaders(t *testing.T) {
	for _, lengths := range [][]int{{1, 1, 1, 1, 1, 1}, {9, 2, 1, 10, 3, 1}} {
		for n, turns := range []int{0, 6, 5, 4, 3} {
			var up, down, both []reader
			from := 0
			for i := range n {
				own := lengths[:turns]
				up = append(up, reader{rows: rowsFrom(from, own), kind: api.StreamForward})
				down = append(down, reader{rows: rowsDown(from, own), kind: api.StreamBackward})
				both = append(both, [][]reader{up, down}[i%2][i])
				from = up[i].rows[turns-1].to + 8
			}
			readAll(t, nil, up)
			readAll(t, nil, down)
			readAll(t, nil, both)
		}
	}
}

// The consequence: four readers with long rows, in many orders.
func TestLongReaders(t *testing.T) {
	r := rand.New(rand.NewSource(4))
	lengths := []int{1, 2, 4, 1, 1, 3, 2, 7, 2, 1, 1, 1, 8, 9, 1, 4}
	for range 2000 {
		var l []api.Stream
		var readers []reader
		for i := range 4 {
			readers = append(readers, reader{rows: rowsFrom(i*64, lengths), kind: api.StreamForward})
		}
		for len(readers) > 0 {
			i := r.Intn(len(readers))
			l = readers[i].turn(t, l)
			readers[i].done++
			if readers[i].done == len(lengths) {
				readers = slices.Delete(readers, i, i+1)
			}
		}
		if len(l) != 4 {
			t.Fatalf("%+v", l)
		}
	}
}

// The streams of readers whose places are apart stay four, however often others of them come in between.
func TestReaderWaits(t *testing.T) {
	l := feedAll(t, nil, access{0, 1}, access{1, 2}, access{2, 3})
	for i := range 50 {
		l = feedAll(t, l, access{60 + i, 61 + i}, access{130 + i, 131 + i}, access{200 + i, 201 + i})
	}
	l = feedAll(t, l, access{3, 4})
	if len(l) != 4 || l[0].Hits != 3 || l[0].Kind != api.StreamForward || l[1].Hits != 49 || l[3].Hits != 49 {
		t.Errorf("%+v", l)
	}
}
