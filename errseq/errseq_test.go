package errseq

import (
	"math"
	"testing"

	"pagecache/api"
)

// most is the greatest Count, in numbers as the limits say it.
const most = 1000000

func seq(count int, err api.Errno) api.Errseq { return api.Errseq{Count: count, Err: err} }

// rightCounts are numbers of errors that a sequence can have, without 0.
func rightCounts() []int { return []int{1, 2, 3, 7, 255, 256, 65536, most - 1, most} }

// badCounts are numbers of errors that no sequence has.
func badCounts() []int {
	return []int{-1, -2, -most, -most - 1, most + 1, most + 2, 2 * most, 1 << 32, 1<<32 + 5, math.MaxInt, math.MaxInt - 1, math.MinInt, math.MinInt + 1}
}

// errnos are errors; some have no name.
func errnos() []api.Errno {
	return []api.Errno{api.ErrInvalid, api.ErrRange, api.ErrFull, api.ErrUnknown, api.ErrBusy, api.ErrIO, api.ErrTimeout, api.ErrLink, api.ErrReset, 8, 1234, -1, math.MaxInt, math.MinInt}
}

// rightSequences are sequences that are right.
func rightSequences() []api.Errseq {
	l := []api.Errseq{{}}
	for _, count := range rightCounts() {
		for _, err := range errnos() {
			l = append(l, seq(count, err))
		}
	}
	return l
}

// badSequences are sequences that are not right: their Count is that of none, or their Err does not go with it.
func badSequences() []api.Errseq {
	var l []api.Errseq
	for _, count := range badCounts() {
		l = append(l, seq(count, api.OK), seq(count, api.ErrIO), seq(count, -1))
	}
	for _, count := range rightCounts() {
		l = append(l, seq(count, api.OK))
	}
	for _, err := range errnos() {
		l = append(l, seq(0, err))
	}
	return l
}

// cursors are numbers from 0 to count, all of them if they are few.
func cursors(count int) []int {
	var l []int
	for cursor := range min(count, 10) {
		l = append(l, cursor)
	}
	if count > 10 {
		l = append(l, count/2, count-2, count-1)
	}
	return append(l, count)
}

// badCursors are numbers that no cursor of a sequence with this Count is.
func badCursors(count int) []int {
	return []int{-1, -2, -count - 1, count + 1, count + 2, 2*count + 1, most + 1, 1 << 32, math.MaxInt, math.MaxInt - 1, math.MinInt, math.MinInt + 1}
}

func expectRecord(t *testing.T, e api.Errseq, err api.Errno, want api.Errseq, wantErr api.Errno) {
	t.Helper()
	if got, gotErr := Record(e, err); got != want || gotErr != wantErr {
		t.Errorf("Record %d in %+v: %+v %d, want %+v %d", int(err), e, got, int(gotErr), want, int(wantErr))
	}
}

func expectCheck(t *testing.T, e api.Errseq, cursor int, want api.Errno, wantCursor int) {
	t.Helper()
	if got, gotCursor := Check(e, cursor); got != want || gotCursor != wantCursor {
		t.Errorf("Check of %+v at %d: %d %d, want %d %d", e, cursor, int(got), gotCursor, int(want), wantCursor)
	}
}

// P5.1: all errors in sequences that have room.
func TestRecord(t *testing.T) {
	for _, e := range rightSequences() {
		if e.Count == most {
			continue
		}
		for _, err := range errnos() {
			expectRecord(t, e, err, seq(e.Count+1, err), api.OK)
		}
	}
	expectRecord(t, api.Errseq{}, api.ErrIO, seq(1, api.ErrIO), api.OK)
	expectRecord(t, seq(1, api.ErrIO), api.ErrTimeout, seq(2, api.ErrTimeout), api.OK)
	expectRecord(t, seq(2, api.ErrTimeout), api.ErrTimeout, seq(3, api.ErrTimeout), api.OK)
	expectRecord(t, seq(most-1, api.ErrIO), api.ErrLink, seq(most, api.ErrLink), api.OK)
}

// P5.1: a sequence that is full stays as it is.
func TestRecordFull(t *testing.T) {
	for _, old := range errnos() {
		for _, err := range errnos() {
			expectRecord(t, seq(most, old), err, seq(most, old), api.ErrFull)
		}
	}
}

// P5.1: one error after the other, until there is no room.
func TestRecordAll(t *testing.T) {
	var e api.Errseq
	for i := range most {
		want := seq(i+1, api.Errno(1+i%50))
		got, err := Record(e, want.Err)
		if got != want || err != api.OK {
			t.Fatalf("the error %d: %+v %v", i, got, err)
		}
		e = got
	}
	expectRecord(t, e, api.ErrIO, e, api.ErrFull)
	if got := Sample(e); got != most {
		t.Errorf("Sample of the full sequence: %d", got)
	}
	expectCheck(t, e, 0, e.Err, most)
	expectCheck(t, e, most, api.OK, most)
}

// P5.1: sequences that are not right, and no error; both are told ahead of a full sequence.
func TestRecordInvalid(t *testing.T) {
	for _, e := range badSequences() {
		for _, err := range append(errnos(), api.OK) {
			expectRecord(t, e, err, e, api.ErrInvalid)
		}
	}
	for _, e := range rightSequences() {
		expectRecord(t, e, api.OK, e, api.ErrInvalid)
	}
	expectRecord(t, seq(most, api.ErrIO), api.OK, seq(most, api.ErrIO), api.ErrInvalid)
	expectRecord(t, seq(most, api.OK), api.ErrIO, seq(most, api.OK), api.ErrInvalid)
}

// P5.2: the cursor of an observer that begins now, to which nothing is told yet.
func TestSample(t *testing.T) {
	for _, e := range rightSequences() {
		if got := Sample(e); got != e.Count {
			t.Errorf("Sample of %+v: %d", e, got)
		}
		if Pending(e, Sample(e)) {
			t.Errorf("%+v: pending for an observer that begins", e)
		}
		expectCheck(t, e, Sample(e), api.OK, e.Count)
	}
	for _, e := range badSequences() {
		if got := Sample(e); got != 0 {
			t.Errorf("Sample of %+v: %d", e, got)
		}
	}
}

// P5.2: all cursors of small sequences, and some of great ones.
func TestPending(t *testing.T) {
	for _, e := range rightSequences() {
		for _, cursor := range cursors(e.Count) {
			if got := Pending(e, cursor); got != (cursor != e.Count) {
				t.Errorf("Pending of %+v at %d: %v", e, cursor, got)
			}
		}
	}
	for _, c := range []struct {
		e      api.Errseq
		cursor int
		want   bool
	}{
		{api.Errseq{}, 0, false}, {seq(1, api.ErrIO), 0, true}, {seq(1, api.ErrIO), 1, false}, {seq(3, api.ErrIO), 1, true}, {seq(3, api.ErrIO), 2, true}, {seq(3, api.ErrIO), 3, false},
		{seq(most, api.ErrIO), 0, true}, {seq(most, api.ErrIO), most - 1, true}, {seq(most, api.ErrIO), most, false},
	} {
		if got := Pending(c.e, c.cursor); got != c.want {
			t.Errorf("Pending of %+v at %d: %v", c.e, c.cursor, got)
		}
	}
}

// P5.2: nothing is pending at a cursor that is not right.
func TestPendingNot(t *testing.T) {
	for _, e := range rightSequences() {
		for _, cursor := range badCursors(e.Count) {
			if Pending(e, cursor) {
				t.Errorf("Pending of %+v at %d", e, cursor)
			}
		}
	}
	for _, e := range badSequences() {
		for _, cursor := range []int{-1, -2, math.MinInt, e.Count} {
			if Pending(e, cursor) {
				t.Errorf("Pending of %+v at %d", e, cursor)
			}
		}
	}
}

// P5.3: an observer is told the last error if its cursor is not at the end, and is at the end then.
func TestCheck(t *testing.T) {
	for _, e := range rightSequences() {
		for _, cursor := range cursors(e.Count) {
			if cursor == e.Count {
				expectCheck(t, e, cursor, api.OK, cursor)
				continue
			}
			expectCheck(t, e, cursor, e.Err, e.Count)
		}
	}
	expectCheck(t, api.Errseq{}, 0, api.OK, 0)
	expectCheck(t, seq(1, api.ErrIO), 0, api.ErrIO, 1)
	expectCheck(t, seq(1, api.ErrIO), 1, api.OK, 1)
	expectCheck(t, seq(5, api.ErrTimeout), 2, api.ErrTimeout, 5)
	expectCheck(t, seq(5, api.ErrTimeout), 4, api.ErrTimeout, 5)
	expectCheck(t, seq(most, api.ErrTimeout), 0, api.ErrTimeout, most)
}

// P5.3: sequences and cursors that are not right; the cursor stays.
func TestCheckInvalid(t *testing.T) {
	for _, e := range rightSequences() {
		for _, cursor := range badCursors(e.Count) {
			expectCheck(t, e, cursor, api.ErrInvalid, cursor)
		}
	}
	for _, e := range badSequences() {
		for _, cursor := range append(badCursors(e.Count), 0, 1, 2, 3, most-1, most, e.Count, e.Count-1) {
			expectCheck(t, e, cursor, api.ErrInvalid, cursor)
		}
	}
}

// P5.3: an observer that was told an error that says the sequence is not right is not told it again.
func TestCheckTellsInvalid(t *testing.T) {
	e, _ := Record(api.Errseq{}, api.ErrInvalid)
	expectCheck(t, e, 0, api.ErrInvalid, 1)
	expectCheck(t, e, 1, api.OK, 1)
}

// Example 1.
func TestTwoObservers(t *testing.T) {
	var e api.Errseq
	first, second := Sample(e), Sample(e)
	e, _ = Record(e, api.ErrIO)
	for _, cursor := range []int{first, second} {
		told, next := Check(e, cursor)
		again, last := Check(e, next)
		if told != api.ErrIO || next != 1 || again != api.OK || last != 1 {
			t.Errorf("told %v, then %v, at %d and %d", told, again, next, last)
		}
	}
}

// watcher is an observer with the errors that it was not told of, in their order.
type watcher struct {
	cursor int
	unseen []api.Errno
}

// told is what the consequence says that a watcher is told.
func (w watcher) told() api.Errno {
	if len(w.unseen) == 0 {
		return api.OK
	}
	return w.unseen[len(w.unseen)-1]
}

// history is a sequence with all of its observers.
type history struct {
	e        api.Errseq
	watchers []watcher
}

// clone returns the history in new memory, so that several ones can go on from it.
func (h history) clone() history {
	l := make([]watcher, len(h.watchers))
	for i, w := range h.watchers {
		l[i] = watcher{w.cursor, append([]api.Errno(nil), w.unseen...)}
	}
	return history{h.e, l}
}

// record returns the history with one more error, which all of its observers have to be told of.
func (h history) record(t *testing.T, err api.Errno) history {
	h = h.clone()
	e, failed := Record(h.e, err)
	if failed != api.OK {
		t.Fatalf("Record %d in %+v: %v", int(err), h.e, failed)
	}
	h.e = e
	for i := range h.watchers {
		h.watchers[i].unseen = append(h.watchers[i].unseen, err)
	}
	return h
}

// begin returns the history with one more observer.
func (h history) begin() history {
	h = h.clone()
	h.watchers = append(h.watchers, watcher{cursor: Sample(h.e)})
	return h
}

// check returns the history after a check of the observer i.
func (h history) check(t *testing.T, i int) history {
	h = h.clone()
	w := &h.watchers[i]
	if got := Pending(h.e, w.cursor); got != (len(w.unseen) > 0) {
		t.Fatalf("Pending of %+v at %d: %v, unseen %v", h.e, w.cursor, got, w.unseen)
	}
	got, next := Check(h.e, w.cursor)
	if got != w.told() {
		t.Fatalf("Check of %+v at %d: %v, unseen %v", h.e, w.cursor, got, w.unseen)
	}
	w.cursor, w.unseen = next, nil
	return h
}

// goOn checks all that can happen in so many further steps.
func (h history) goOn(t *testing.T, steps int) {
	if steps == 0 {
		return
	}
	for _, err := range []api.Errno{api.ErrIO, api.ErrTimeout} {
		h.record(t, err).goOn(t, steps-1)
	}
	if len(h.watchers) < 3 {
		h.begin().goOn(t, steps-1)
	}
	for i := range h.watchers {
		h.check(t, i).goOn(t, steps-1)
	}
}

// The consequence: all histories of a few steps, from a sequence without errors on and from one with many.
func TestHistories(t *testing.T) {
	history{}.goOn(t, 8)
	history{e: seq(most-7, api.ErrLink)}.goOn(t, 7)
}

// The consequence: an observer that looks seldom is told once of many errors, and of the last one.
func TestSeldom(t *testing.T) {
	h := history{}.begin()
	for i := range 300 {
		h = h.record(t, api.Errno(1+i%11))
		if i%7 == 3 {
			h = h.begin()
		}
		for k := range h.watchers {
			if i%(k+2) == 0 {
				h = h.check(t, k)
			}
		}
	}
	for range 2 {
		for k := range h.watchers {
			h = h.check(t, k)
		}
	}
}
