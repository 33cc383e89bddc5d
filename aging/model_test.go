package aging

import (
	"math"
	"slices"
	"testing"

	"pagecache/api"
)

// The limits, in numbers as the document says them: how many files there are, and the last tick.
const (
	mostFiles = 8
	lastTick  = 1000000
)

// farFiles are numbers that are no files. Some of them become files when they are cut off, or when bits are shifted by them.
var farFiles = []int{-1, -2, -8, mostFiles, mostFiles + 1, 15, 16, 63, 64, 65, lastTick, 1 << 32, 1<<32 + 5, -1 << 32, math.MaxInt, math.MaxInt - 1, math.MinInt, math.MinInt + 1}

// farTicks are numbers that are no ticks.
var farTicks = []int{-1, -2, -64, -lastTick, lastTick + 1, lastTick + 2, 2 * lastTick, 1 << 32, 1<<32 + 5, -1 << 32, math.MaxInt, math.MaxInt - 1, math.MinInt, math.MinInt + 1}

// dues returns a list of files and their Since in turn.
func dues(numbers ...int) []api.Due {
	var l []api.Due
	for i := 0; i+1 < len(numbers); i += 2 {
		l = append(l, api.Due{File: numbers[i], Since: numbers[i+1]})
	}
	return l
}

// right returns right lists, from the least ones to the greatest ones.
func right() [][]api.Due {
	return [][]api.Due{
		nil, {}, dues(0, 0), dues(7, lastTick), dues(2, 3, 1, 5), dues(5, 4, 3, 4, 6, 4), dues(1, 0, 0, lastTick), dues(0, 9, 1, 9, 2, 10, 7, 11),
		dues(7, 0, 6, 1, 5, 2, 4, 3, 3, 4, 2, 5, 1, 6, 0, 7), dues(3, 2, 0, 2, 7, 5, 1, 5, 4, 5, 6, 8, 2, lastTick-1, 5, lastTick), dues(0, lastTick, 1, lastTick, 2, lastTick, 3, lastTick, 4, lastTick, 5, lastTick, 6, lastTick, 7, lastTick),
	}
}

// badLists are lists that are not right, for one reason each, and some for several.
func badLists() [][]api.Due {
	l := [][]api.Due{
		dues(1, 5, 2, 4), dues(1, 1, 2, 0), dues(1, lastTick, 2, 0), dues(1, 3, 2, 5, 3, 4), dues(1, 3, 2, 5, 3, 3), dues(4, 7, 0, 3, 2, 8),
		dues(1, 5, 1, 5), dues(1, 5, 1, 6), dues(0, 0, 0, 0), dues(1, 5, 2, 5, 1, 5), dues(7, 1, 2, 2, 3, 3, 7, 4), dues(1, 6, 1, 5),
		make([]api.Due, 9), make([]api.Due, 1000), append(right()[8], dues(0, 7)...), append(right()[8], dues(8, 7)...), append(dues(-1, 0), right()[8]...),
	}
	for _, r := range right() {
		for i := range r {
			for _, file := range farFiles {
				bad := slices.Clone(r)
				bad[i].File = file
				l = append(l, bad)
			}
			for _, since := range farTicks {
				bad := slices.Clone(r)
				bad[i].Since = since
				l = append(l, bad)
			}
		}
	}
	return l
}

// modelRight is the chapter's definition of a right list: it looks at all pairs of elements.
func modelRight(l []api.Due) bool {
	for i, a := range l {
		if a.File < 0 || a.File > 7 || a.Since < 0 || a.Since > lastTick {
			return false
		}
		for _, b := range l[:i] {
			if b.File == a.File || b.Since > a.Since {
				return false
			}
		}
	}
	return true
}

// modelErr is the first error of an operation that needs the file in the list (known), and that has a tick (timed).
func modelErr(l []api.Due, file, now int, known, timed bool) api.Errno {
	switch {
	case !modelRight(l):
		return api.ErrInvalid
	case file < 0 || file > 7:
		return api.ErrRange
	case timed && (now < 0 || now > lastTick):
		return api.ErrRange
	case timed && slices.ContainsFunc(l, func(d api.Due) bool { return d.Since > now }):
		return api.ErrRange
	case known && !modelHas(l, file):
		return api.ErrUnknown
	}
	return api.OK
}

func modelHas(l []api.Due, file int) bool {
	for _, d := range l {
		if d.File == file {
			return true
		}
	}
	return false
}

// modelWithout returns the elements of other files.
func modelWithout(l []api.Due, file int) []api.Due {
	return slices.DeleteFunc(slices.Clone(l), func(d api.Due) bool { return d.File == file })
}

func modelAdd(l []api.Due, file, now int) ([]api.Due, api.Errno) {
	err := modelErr(l, file, now, false, true)
	if err != api.OK || modelHas(l, file) {
		return l, err
	}
	return append(slices.Clone(l), api.Due{File: file, Since: now}), api.OK
}

func modelRemove(l []api.Due, file int) ([]api.Due, api.Errno) {
	if err := modelErr(l, file, 0, true, false); err != api.OK {
		return l, err
	}
	return modelWithout(l, file), api.OK
}

func modelAgain(l []api.Due, file, now int) ([]api.Due, api.Errno) {
	if err := modelErr(l, file, now, true, true); err != api.OK {
		return l, err
	}
	return append(modelWithout(l, file), api.Due{File: file, Since: now}), api.OK
}

// modelExpired adds the age to each Since, and does not take it from now.
func modelExpired(l []api.Due, now, age int) []int {
	var files []int
	if !modelRight(l) || now < 0 || now > lastTick || age < 0 || age > lastTick {
		return nil
	}
	for _, d := range l {
		if now >= d.Since+age {
			files = append(files, d.File)
		}
	}
	return files
}

func modelOldest(l []api.Due) (int, bool) {
	if !modelRight(l) {
		return 0, false
	}
	for _, d := range l {
		return d.File, true
	}
	return 0, false
}

// spare is what stands behind a list in its memory.
var spare = api.Due{File: 77, Since: 777}

// roomy returns a list whose memory has room for three elements more.
func roomy(l []api.Due) []api.Due {
	return append(slices.Clone(l), spare, spare, spare)[:len(l)]
}

// expectChange calls an operation, compares its results with these, and checks that it shares no memory with its argument and does not change it.
func expectChange(t *testing.T, what string, l, want []api.Due, wantErr api.Errno, change func(l []api.Due) ([]api.Due, api.Errno)) {
	t.Helper()
	own := roomy(l)
	got, err := change(own)
	if !slices.Equal(got, want) || err != wantErr {
		t.Fatalf("%s of %v: %v and %d, want %v and %d", what, l, got, err, want, wantErr)
	}
	got = got[:cap(got)]
	for i := range got {
		got[i] = api.Due{File: -55, Since: -555}
	}
	if !slices.Equal(own, l) || !slices.Equal(own[:len(l)+3][len(l):], []api.Due{spare, spare, spare}) {
		t.Fatalf("%s of %v: the list became %v", what, l, own[:len(l)+3])
	}
}

func expectAdd(t *testing.T, l []api.Due, file, now int) {
	t.Helper()
	want, err := modelAdd(l, file, now)
	expectChange(t, "Add", l, want, err, func(l []api.Due) ([]api.Due, api.Errno) { return Add(l, file, now) })
}

func expectRemove(t *testing.T, l []api.Due, file int) {
	t.Helper()
	want, err := modelRemove(l, file)
	expectChange(t, "Remove", l, want, err, func(l []api.Due) ([]api.Due, api.Errno) { return Remove(l, file) })
}

func expectAgain(t *testing.T, l []api.Due, file, now int) {
	t.Helper()
	want, err := modelAgain(l, file, now)
	expectChange(t, "Again", l, want, err, func(l []api.Due) ([]api.Due, api.Errno) { return Again(l, file, now) })
}

func expectExpired(t *testing.T, l []api.Due, now, age int) {
	t.Helper()
	own := roomy(l)
	got, want := Expired(own, now, age), modelExpired(l, now, age)
	if !slices.Equal(got, want) || !slices.Equal(own, l) {
		t.Fatalf("Expired of %v at %d with age %d: %v, want %v; the list became %v", l, now, age, got, want, own)
	}
}

func expectOldest(t *testing.T, l []api.Due) {
	t.Helper()
	own := roomy(l)
	file, ok := Oldest(own)
	want, wantOK := modelOldest(l)
	if file != want || ok != wantOK || !slices.Equal(own, l) {
		t.Fatalf("Oldest of %v: %d and %v, want %d and %v; the list became %v", l, file, ok, want, wantOK, own)
	}
}

func expectCheck(t *testing.T, l []api.Due) {
	t.Helper()
	own := roomy(l)
	if got := Check(own); got != modelRight(l) || !slices.Equal(own, l) {
		t.Fatalf("Check of %v: %v; the list became %v", l, got, own)
	}
}
