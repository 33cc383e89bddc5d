package pagetable

import (
	"math"
	"slices"
	"testing"

	"pagecache/api"
)

// Example 1.
func TestExample(t *testing.T) {
	l, err := Enter(nil, api.Pte{Proc: 1, Page: 4, Frame: 3, Write: true, Accessed: true})
	if err != api.OK {
		t.Fatal(err)
	}
	if l, err = Enter(l, api.Pte{Proc: 0, Page: 9, Frame: 3, Write: true}); err != api.OK {
		t.Fatal(err)
	}
	want := []api.Pte{{Proc: 0, Page: 9, Frame: 3}, {Proc: 1, Page: 4, Frame: 3, Accessed: true}}
	if l = Protect(l, 3); !slices.Equal(l, want) {
		t.Errorf("%v, want %v", l, want)
	}
}

// P17.1: right lists, and ones that are not right.
func TestCheckCases(t *testing.T) {
	for _, l := range right() {
		if !Check(l) {
			t.Errorf("%v is right", l)
		}
	}
	for _, l := range badLists() {
		if Check(l) {
			t.Errorf("%v is not right", l)
		}
	}
	for _, e := range badEntries() {
		if Check([]api.Pte{e}) {
			t.Errorf("%v is not right", e)
		}
	}
}

// P17.1: what an entry shows, and whether it is writable or accessed, says nothing about its place: lists are ordered by process and page alone.
func TestCheckOrder(t *testing.T) {
	for _, write := range []bool{false, true} {
		for _, accessed := range []bool{false, true} {
			a, b := api.Pte{Proc: 3, Page: 5, Frame: 64, Write: write, Accessed: accessed}, api.Pte{Proc: 3, Page: 6, Frame: 1, Write: !write, Accessed: !accessed}
			same := a
			same.Frame, same.Write, same.Accessed = 1, !write, !accessed
			if !Check([]api.Pte{a, b}) || Check([]api.Pte{b, a}) || Check([]api.Pte{a, a}) || Check([]api.Pte{a, same}) || Check([]api.Pte{same, a}) {
				t.Errorf("%v and %v", a, b)
			}
		}
	}
}

// P17.1: Get returns the entry of the page of the process, whole, and no other one.
func TestGetCases(t *testing.T) {
	l := ptes(0, 0, 9, 0, 5, 3, 2, 5, 3, 2, 6, 64, 7, 63, 1)
	for _, want := range l {
		if e, ok := Get(l, want.Proc, want.Page); e != want || !ok {
			t.Errorf("the page %d of the process %d: %v and %v", want.Page, want.Proc, e, ok)
		}
	}
	for _, n := range [][2]int{{0, 1}, {0, 4}, {0, 6}, {0, 63}, {1, 0}, {1, 5}, {2, 0}, {2, 4}, {2, 7}, {5, 2}, {6, 63}, {7, 0}, {7, 62}, {7, 64}, {8, 0}, {-1, 5}, {0, -1}, {63, 7}, {0, 64}, {2, 5 + 1<<32}, {2 + 1<<32, 5}, {math.MaxInt, 5}, {math.MinInt, 5}, {2, math.MaxInt}, {2, math.MinInt}} {
		if e, ok := Get(l, n[0], n[1]); e != (api.Pte{}) || ok {
			t.Errorf("the page %d of the process %d: %v and %v, want none", n[1], n[0], e, ok)
		}
	}
	bad := []api.Pte{pte(-1, -1, 1), pte(2, 5, 0), pte(3, 5, 7), pte(3, 5, 7)}
	for _, e := range bad {
		if got, ok := Get(bad, e.Proc, e.Page); got != (api.Pte{}) || ok {
			t.Errorf("%v and %v in a list that is not right", got, ok)
		}
	}
}

// enterCase is a call of Enter, written down by hand; want is nil if the list stays as it is.
type enterCase struct {
	l    []api.Pte
	e    api.Pte
	want []api.Pte
	err  api.Errno
}

func expectEnters(t *testing.T, cases ...enterCase) {
	t.Helper()
	for _, c := range cases {
		want := c.want
		if want == nil {
			want = c.l
		}
		var err api.Errno
		expectList(t, "Enter", c.l, want, func(l []api.Pte) (next []api.Pte) {
			next, err = Enter(l, c.e)
			return next
		})
		if err != c.err {
			t.Errorf("Enter of %v into %v: %d, want %d", c.e, c.l, err, c.err)
		}
	}
}

// P17.2: Enter adds an entry in front of all, between two and behind all.
func TestEnterCases(t *testing.T) {
	l := ptes(2, 4, 9, 3, 1, 5)
	expectEnters(t,
		enterCase{nil, pte(0, 0, 1), ptes(0, 0, 1), api.OK}, enterCase{[]api.Pte{}, pte(7, 63, 64), ptes(7, 63, 64), api.OK},
		enterCase{l, pte(2, 3, 9), ptes(2, 3, 9, 2, 4, 9, 3, 1, 5), api.OK}, enterCase{l, pte(1, 63, 9), ptes(1, 63, 9, 2, 4, 9, 3, 1, 5), api.OK}, enterCase{l, pte(0, 0, 64), ptes(0, 0, 64, 2, 4, 9, 3, 1, 5), api.OK},
		enterCase{l, pte(2, 5, 9), ptes(2, 4, 9, 2, 5, 9, 3, 1, 5), api.OK}, enterCase{l, pte(2, 63, 1), ptes(2, 4, 9, 2, 63, 1, 3, 1, 5), api.OK}, enterCase{l, pte(3, 0, 1), ptes(2, 4, 9, 3, 0, 1, 3, 1, 5), api.OK},
		enterCase{l, pte(3, 2, 1), ptes(2, 4, 9, 3, 1, 5, 3, 2, 1), api.OK}, enterCase{l, pte(4, 0, 1), ptes(2, 4, 9, 3, 1, 5, 4, 0, 1), api.OK}, enterCase{l, pte(7, 63, 9), ptes(2, 4, 9, 3, 1, 5, 7, 63, 9), api.OK},
	)
}

// P17.2: an entry takes the place of the one of the same page of the same process, and takes nothing over from it.
func TestEnterReplaces(t *testing.T) {
	l := ptes(2, 4, 9, 3, 1, 5, 3, 4, 9)
	for _, e := range []api.Pte{{Frame: 1}, {Frame: 9}, {Frame: 64, Write: true}, {Frame: 5, Accessed: true}, {Frame: 7, Write: true, Accessed: true}} {
		for i := range l {
			e.Proc, e.Page = l[i].Proc, l[i].Page
			want := slices.Clone(l)
			want[i] = e
			expectEnters(t, enterCase{l, e, want, api.OK})
		}
		e.Proc, e.Page = 7, 63
		expectEnters(t, enterCase{whole(), e, append(whole()[:511], e), api.OK})
		e.Proc, e.Page = 0, 0
		expectEnters(t, enterCase{whole(), e, append([]api.Pte{e}, whole()[1:]...), api.OK})
	}
}

// P17.2: the errors of Enter, and the first of them ahead of the other one.
func TestEnterErrors(t *testing.T) {
	for _, l := range badLists() {
		expectEnters(t, enterCase{l, pte(3, 5, 7), nil, api.ErrInvalid}, enterCase{l, pte(6, 60, 7), nil, api.ErrInvalid}, enterCase{l, api.Pte{}, nil, api.ErrInvalid})
	}
	for _, l := range right() {
		for _, e := range badEntries() {
			expectEnters(t, enterCase{l, e, nil, api.ErrRange})
		}
	}
}

// zapCase is a call of Zap, written down by hand: the places of the entries that are left.
type zapCase struct {
	proc, page, count int
	left              []int
}

// P17.3: Zap removes the entries of the pages from page to page + count - 1, of this process alone, and none if count is less than 1.
func TestZapCases(t *testing.T) {
	l := ptes(1, 0, 9, 1, 4, 3, 1, 5, 9, 1, 7, 3, 1, 63, 9, 2, 4, 3, 2, 5, 9)
	all := []int{0, 1, 2, 3, 4, 5, 6}
	for _, c := range []zapCase{
		{1, 4, 1, []int{0, 2, 3, 4, 5, 6}}, {1, 4, 2, []int{0, 3, 4, 5, 6}}, {1, 5, 1, []int{0, 1, 3, 4, 5, 6}}, {1, 5, 2, []int{0, 1, 3, 4, 5, 6}}, {1, 5, 3, []int{0, 1, 4, 5, 6}}, {1, 6, 1, all}, {1, 6, 2, []int{0, 1, 2, 4, 5, 6}},
		{1, 0, 64, []int{5, 6}}, {1, 0, 1, []int{1, 2, 3, 4, 5, 6}}, {1, 1, 3, all}, {1, 1, 62, []int{0, 4, 5, 6}}, {1, 63, 1, []int{0, 1, 2, 3, 5, 6}}, {1, 8, 56, []int{0, 1, 2, 3, 5, 6}}, {1, 8, 55, all}, {2, 0, 64, []int{0, 1, 2, 3, 4}}, {2, 4, 1, []int{0, 1, 2, 3, 4, 6}}, {0, 0, 64, all}, {3, 0, 64, all}, {7, 0, 64, all},
		{1, 4, 0, all}, {1, 4, -1, all}, {1, 5, -2, all}, {1, 6, -3, all}, {1, 4, math.MinInt, all}, {1, math.MaxInt, math.MinInt, all}, {1, math.MinInt, math.MinInt, all},
		{1, -1, 1, all}, {1, -1, 2, []int{1, 2, 3, 4, 5, 6}}, {1, -3, 8, []int{2, 3, 4, 5, 6}}, {1, -3, 100, []int{5, 6}}, {1, 60, 100, []int{0, 1, 2, 3, 5, 6}}, {1, 64, 100, all}, {1, 5, math.MaxInt, []int{0, 1, 5, 6}}, {1, 1, math.MaxInt, []int{0, 5, 6}}, {1, 0, math.MaxInt, []int{5, 6}}, {1, -5, math.MaxInt, []int{5, 6}},
		{1, math.MinInt, math.MaxInt, all}, {1, math.MinInt + 1, math.MaxInt, all}, {1, math.MinInt + 2, math.MaxInt, []int{1, 2, 3, 4, 5, 6}}, {1, math.MinInt + 7, math.MaxInt, []int{3, 4, 5, 6}}, {1, math.MinInt, 1, all}, {1, math.MinInt, 63, all}, {1, math.MaxInt, math.MaxInt, all}, {1, math.MaxInt, 1, all}, {1, math.MaxInt - 5, 70, all},
		{-1, 0, 64, all}, {8, 0, 64, all}, {1 + 1<<32, 0, 64, all}, {1, 4 + 1<<32, 1, all}, {math.MaxInt, 4, 1, all}, {math.MinInt, 4, 1, all},
	} {
		var want []api.Pte
		for _, i := range c.left {
			want = append(want, l[i])
		}
		expectList(t, "Zap", l, want, func(l []api.Pte) []api.Pte { return Zap(l, c.proc, c.page, c.count) })
	}
}

// P17.3: Of, Drop, Protect and Young are about all entries of a frame, in all processes, and about no other one.
func TestFrameCases(t *testing.T) {
	read := func(proc, page, frame int) api.Pte { return api.Pte{Proc: proc, Page: page, Frame: frame} }
	l := []api.Pte{read(0, 1, 3), read(0, 2, 4), read(1, 1, 3), read(1, 2, 5), read(7, 63, 3), read(7, 62, 4)}
	l[4], l[5] = l[5], l[4]
	for i := range l {
		l[i].Write, l[i].Accessed = i != 1, i == 2 || i == 3
	}
	three, others := []api.Pte{l[0], l[2], l[5]}, []api.Pte{l[1], l[3], l[4]}
	protected, old := slices.Clone(l), slices.Clone(l)
	protected[0].Write, protected[2].Write, protected[5].Write = false, false, false
	old[2].Accessed = false
	if got := Of(l, 3); !slices.Equal(got, three) {
		t.Errorf("Of: %v", got)
	}
	if got := Drop(l, 3); !slices.Equal(got, others) {
		t.Errorf("Drop: %v", got)
	}
	if got := Protect(l, 3); !slices.Equal(got, protected) {
		t.Errorf("Protect: %v", got)
	}
	if got, young := Young(l, 3); !slices.Equal(got, old) || !young {
		t.Errorf("Young: %v and %v", got, young)
	}
	if got, young := Young(old, 3); !slices.Equal(got, old) || young {
		t.Errorf("Young once more: %v and %v", got, young)
	}
}

// P17.3: a frame without entries, or one that there is not, changes nothing.
func TestNoFrames(t *testing.T) {
	l := ptes(0, 1, 3, 0, 2, 4, 1, 1, 3)
	for _, frame := range append([]int{0, 1, 2, 5, 64}, append(farNumbers, 3+1<<32, 4-1<<32)...) {
		if got := Of(l, frame); len(got) != 0 {
			t.Errorf("Of the frame %d: %v", frame, got)
		}
		young, ok := Young(l, frame)
		for _, got := range [][]api.Pte{Drop(l, frame), Protect(l, frame), young} {
			if !slices.Equal(got, l) || ok {
				t.Errorf("the frame %d: %v and %v", frame, got, ok)
			}
		}
	}
}

// Definitions: lists that are not right are returned as they are; Get returns no entry then, Of nothing, Young false.
func TestBadLists(t *testing.T) {
	for _, l := range badLists() {
		for _, e := range l[:min(len(l), 10)] {
			e.Write, e.Accessed = true, true
			own := slices.Clone(l)
			own[0] = e
			if Check(own) {
				continue
			}
			if got, ok := Get(own, e.Proc, e.Page); got != (api.Pte{}) || ok || len(Of(own, e.Frame)) != 0 {
				t.Errorf("%v and %v in a list that is not right", got, ok)
			}
			young, ok := Young(own, e.Frame)
			for _, got := range [][]api.Pte{Drop(own, e.Frame), Protect(own, e.Frame), Zap(own, e.Proc, e.Page, 1), young} {
				if !slices.Equal(got, own) || ok {
					t.Errorf("%v became %v and %v", own, got, ok)
				}
			}
		}
	}
}

// A loop over the entries of a frame may end at any of them.
func TestEntriesEnd(t *testing.T) {
	l := ptes(0, 1, 3, 0, 2, 4, 1, 1, 3, 2, 0, 3)
	for last := range l {
		var places []int
		for i, e := range entriesOf(l, 3) {
			if e != l[i] {
				t.Errorf("%v at %d", e, i)
			}
			if places = append(places, i); i >= last {
				break
			}
		}
		if want := [][]int{{0}, {0, 2}, {0, 2}, {0, 2, 3}}[last]; !slices.Equal(places, want) {
			t.Errorf("up to %d: %v", last, places)
		}
	}
}
