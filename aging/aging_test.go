package aging

import (
	"math"
	"slices"
	"testing"

	"pagecache/api"
)

// Example 1.
func TestExample(t *testing.T) {
	l, err := Add(nil, 2, 3)
	if err != api.OK {
		t.Fatal(err)
	}
	if l, err = Add(l, 1, 5); err != api.OK {
		t.Fatal(err)
	}
	if got := Expired(l, 7, 4); !slices.Equal(got, []int{2}) {
		t.Errorf("%v are expired", got)
	}
}

// P15.1: right lists, and ones that are not right.
func TestCheckCases(t *testing.T) {
	for _, l := range right() {
		if !Check(l) {
			t.Errorf("%v is right", l)
		}
	}
	for _, l := range badLists() {
		if Check(l) {
			t.Errorf("%v is not right", l)
		}
	}
}

// changeCase is a call that changes a list, written down by hand; want is nil if the list stays as it is.
type changeCase struct {
	l         []api.Due
	file, now int
	want      []api.Due
	err       api.Errno
}

func expectChanges(t *testing.T, what string, change func(l []api.Due, file, now int) ([]api.Due, api.Errno), cases ...changeCase) {
	t.Helper()
	for _, c := range cases {
		want := c.want
		if want == nil {
			want = c.l
		}
		expectChange(t, what, c.l, want, c.err, func(l []api.Due) ([]api.Due, api.Errno) { return change(l, c.file, c.now) })
	}
}

// P15.1: Add adds at the end, also at the Since of the last one, and changes nothing for a file that is in the list.
func TestAddCases(t *testing.T) {
	full := right()[8]
	expectChanges(t, "Add", Add,
		changeCase{nil, 0, 0, dues(0, 0), api.OK}, changeCase{nil, 7, lastTick, dues(7, lastTick), api.OK}, changeCase{[]api.Due{}, 3, 5, dues(3, 5), api.OK},
		changeCase{dues(2, 3), 1, 5, dues(2, 3, 1, 5), api.OK}, changeCase{dues(2, 3), 1, 3, dues(2, 3, 1, 3), api.OK}, changeCase{dues(2, lastTick), 1, lastTick, dues(2, lastTick, 1, lastTick), api.OK}, changeCase{dues(5, 4, 3, 4, 6, 4), 0, 4, dues(5, 4, 3, 4, 6, 4, 0, 4), api.OK},
		changeCase{full[:7], 0, 7, full, api.OK}, changeCase{dues(0, 0), 7, 0, dues(0, 0, 7, 0), api.OK},
		changeCase{dues(2, 3), 2, 5, nil, api.OK}, changeCase{dues(2, 3), 2, 3, nil, api.OK}, changeCase{dues(2, 3, 1, 5), 2, 5, nil, api.OK}, changeCase{dues(2, 3, 1, 5), 1, lastTick, nil, api.OK}, changeCase{full, 4, 7, nil, api.OK}, changeCase{full, 0, lastTick, nil, api.OK},
		changeCase{nil, -1, 0, nil, api.ErrRange}, changeCase{nil, 8, 0, nil, api.ErrRange}, changeCase{nil, 0, -1, nil, api.ErrRange}, changeCase{nil, 0, lastTick + 1, nil, api.ErrRange},
		changeCase{dues(2, 3, 1, 5), 0, 4, nil, api.ErrRange}, changeCase{dues(2, 3, 1, 5), 0, 0, nil, api.ErrRange}, changeCase{dues(2, 3, 1, 5), 2, 4, nil, api.ErrRange}, changeCase{dues(2, 3, 1, 5), 1, 4, nil, api.ErrRange}, changeCase{dues(2, 3, 1, 5), 2, -1, nil, api.ErrRange}, changeCase{dues(2, 3), 2, lastTick + 1, nil, api.ErrRange}, changeCase{full, 8, 7, nil, api.ErrRange},
		changeCase{dues(1, 5, 2, 4), 3, 6, nil, api.ErrInvalid}, changeCase{dues(1, 5, 1, 5), 1, 5, nil, api.ErrInvalid}, changeCase{dues(1, 5, 2, 4), -1, 6, nil, api.ErrInvalid}, changeCase{dues(1, 5, 2, 4), 3, -1, nil, api.ErrInvalid}, changeCase{dues(8, 5), 8, 5, nil, api.ErrInvalid},
	)
}

// P15.1: Remove removes a file wherever it stands, and the others keep their order.
func TestRemoveCases(t *testing.T) {
	expectChanges(t, "Remove", func(l []api.Due, file, _ int) ([]api.Due, api.Errno) { return Remove(l, file) },
		changeCase{dues(2, 3), 2, 0, []api.Due{}, api.OK}, changeCase{dues(2, 3, 1, 5), 2, 0, dues(1, 5), api.OK}, changeCase{dues(2, 3, 1, 5), 1, 0, dues(2, 3), api.OK},
		changeCase{dues(5, 4, 3, 4, 6, 4), 3, 0, dues(5, 4, 6, 4), api.OK}, changeCase{dues(5, 4, 3, 4, 6, 4), 5, 0, dues(3, 4, 6, 4), api.OK}, changeCase{dues(0, 0, 7, lastTick), 7, 0, dues(0, 0), api.OK}, changeCase{dues(0, 0, 7, lastTick), 0, 0, dues(7, lastTick), api.OK},
		changeCase{dues(0, 9, 1, 9, 2, 10, 7, 11), 2, 0, dues(0, 9, 1, 9, 7, 11), api.OK},
		changeCase{nil, 0, 0, nil, api.ErrUnknown}, changeCase{nil, 7, 0, nil, api.ErrUnknown}, changeCase{dues(2, 3, 1, 5), 0, 0, nil, api.ErrUnknown}, changeCase{dues(2, 3, 1, 5), 3, 0, nil, api.ErrUnknown},
		changeCase{nil, -1, 0, nil, api.ErrRange}, changeCase{nil, 8, 0, nil, api.ErrRange}, changeCase{dues(2, 3, 1, 5), -1, 0, nil, api.ErrRange}, changeCase{right()[8], 8, 0, nil, api.ErrRange},
		changeCase{dues(1, 5, 2, 4), 1, 0, nil, api.ErrInvalid}, changeCase{dues(1, 5, 2, 4), 3, 0, nil, api.ErrInvalid}, changeCase{dues(1, 5, 1, 5), 8, 0, nil, api.ErrInvalid}, changeCase{dues(8, 5), 8, 0, nil, api.ErrInvalid},
	)
}

// P15.1: Again moves a file to the end, also if it is the last one, and not ahead of the last Since, which can be its own.
func TestAgainCases(t *testing.T) {
	expectChanges(t, "Again", Again,
		changeCase{dues(2, 3), 2, 5, dues(2, 5), api.OK}, changeCase{dues(2, 3), 2, 3, nil, api.OK}, changeCase{dues(2, 3, 1, 5), 2, 5, dues(1, 5, 2, 5), api.OK}, changeCase{dues(2, 3, 1, 5), 2, 9, dues(1, 5, 2, 9), api.OK}, changeCase{dues(2, 3, 1, 5), 1, 9, dues(2, 3, 1, 9), api.OK},
		changeCase{dues(5, 4, 3, 4, 6, 4), 3, 4, dues(5, 4, 6, 4, 3, 4), api.OK}, changeCase{dues(5, 4, 3, 4, 6, 4), 5, lastTick, dues(3, 4, 6, 4, 5, lastTick), api.OK}, changeCase{dues(0, 0, 7, lastTick), 0, lastTick, dues(7, lastTick, 0, lastTick), api.OK},
		changeCase{nil, 0, 0, nil, api.ErrUnknown}, changeCase{dues(2, 3, 1, 5), 0, 5, nil, api.ErrUnknown}, changeCase{dues(2, 3, 1, 5), 7, lastTick, nil, api.ErrUnknown},
		changeCase{nil, -1, 0, nil, api.ErrRange}, changeCase{nil, 8, 0, nil, api.ErrRange}, changeCase{nil, 0, -1, nil, api.ErrRange}, changeCase{nil, 0, lastTick + 1, nil, api.ErrRange}, changeCase{dues(2, 3), 2, 2, nil, api.ErrRange}, changeCase{dues(2, 3), 2, lastTick + 1, nil, api.ErrRange},
		changeCase{dues(2, 3, 1, 5), 2, 4, nil, api.ErrRange}, changeCase{dues(2, 3, 1, 5), 1, 4, nil, api.ErrRange}, changeCase{dues(2, 3, 1, 5), 1, 3, nil, api.ErrRange}, changeCase{dues(2, 3, 1, 5), 0, 4, nil, api.ErrRange}, changeCase{dues(2, 3, 1, 5), 8, 6, nil, api.ErrRange},
		changeCase{dues(1, 5, 2, 4), 1, 6, nil, api.ErrInvalid}, changeCase{dues(1, 5, 2, 4), 3, 6, nil, api.ErrInvalid}, changeCase{dues(1, 5, 1, 5), 1, 4, nil, api.ErrInvalid}, changeCase{dues(8, 5), 8, 6, nil, api.ErrInvalid},
	)
}

// P15.2: files that are dirty for exactly the age, or for longer, are expired; also at a tick before the last Since.
func TestExpiredCases(t *testing.T) {
	l := dues(2, 3, 1, 5, 7, 5, 0, 9)
	for _, c := range []struct {
		l        []api.Due
		now, age int
		want     []int
	}{
		{nil, 0, 0, nil}, {nil, lastTick, 0, nil}, {dues(0, 0), 0, 0, []int{0}}, {dues(0, 0), 0, 1, nil}, {dues(0, 0), lastTick, lastTick, []int{0}}, {dues(0, 1), lastTick, lastTick, nil}, {dues(0, lastTick), lastTick, 0, []int{0}}, {dues(0, lastTick), lastTick, 1, nil}, {dues(0, 0), lastTick - 1, lastTick, nil},
		{l, 7, 4, []int{2}}, {l, 6, 4, nil}, {l, 9, 4, []int{2, 1, 7}}, {l, 8, 4, []int{2}}, {l, 9, 0, []int{2, 1, 7, 0}}, {l, 8, 0, []int{2, 1, 7}}, {l, 3, 0, []int{2}}, {l, 2, 0, nil}, {l, 0, 0, nil}, {l, 13, 4, []int{2, 1, 7, 0}}, {l, 12, 4, []int{2, 1, 7}}, {l, lastTick, lastTick - 4, []int{2}}, {l, lastTick, lastTick, nil},
		{right()[8], lastTick, 0, []int{7, 6, 5, 4, 3, 2, 1, 0}},
		{l, -1, 0, nil}, {l, lastTick + 1, 0, nil}, {l, 9, -1, nil}, {l, 2, -1, nil}, {l, lastTick, lastTick + 1, nil}, {l, lastTick + 1, lastTick + 1, nil}, {l, -1, -9, nil}, {l, math.MaxInt, 0, nil}, {l, 0, math.MinInt, nil}, {l, math.MinInt, 9, nil}, {l, math.MaxInt, math.MaxInt, nil}, {l, math.MinInt, math.MaxInt, nil},
		{dues(1, 5, 2, 4), 9, 0, nil}, {dues(1, 5, 1, 5), 9, 0, nil}, {dues(8, 5), 9, 0, nil}, {dues(1, -1), 9, 0, nil}, {dues(1, 5, 2, lastTick+1), 9, 0, nil},
	} {
		if got := Expired(c.l, c.now, c.age); !slices.Equal(got, c.want) {
			t.Errorf("Expired of %v at %d with age %d: %v", c.l, c.now, c.age, got)
		}
	}
}

// P15.2: the oldest file is the first one, also of several with the same Since.
func TestOldestCases(t *testing.T) {
	for _, c := range []struct {
		l    []api.Due
		want int
		ok   bool
	}{
		{nil, 0, false}, {[]api.Due{}, 0, false}, {dues(0, 0), 0, true}, {dues(7, lastTick), 7, true}, {dues(2, 3, 1, 5), 2, true}, {dues(5, 4, 3, 4, 6, 4), 5, true}, {right()[8], 7, true}, {right()[9], 3, true},
		{dues(1, 5, 2, 4), 0, false}, {dues(1, 5, 1, 5), 0, false}, {dues(8, 5), 0, false}, {dues(-1, 5), 0, false}, {dues(3, 5, 2, lastTick+1), 0, false}, {dues(3, -1), 0, false},
	} {
		if got, ok := Oldest(c.l); got != c.want || ok != c.ok {
			t.Errorf("Oldest of %v: %d and %v", c.l, got, ok)
		}
	}
}
