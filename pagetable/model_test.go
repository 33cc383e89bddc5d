package pagetable

import (
	"maps"
	"math"
	"slices"
	"testing"

	"pagecache/api"
)

// The limits, in numbers as the document says them: how many processes there are, how many pages an address space has, and how many frames there are.
const (
	mostProcs   = 8
	mostAddress = 64
	mostFrames  = 64
)

// farNumbers are numbers that are out of every range. Some of them are in one when they are cut off, or when something is added to them.
var farNumbers = []int{-1, -2, -8, -63, -64, mostFrames + 1, mostFrames + 2, 127, 128, 255, 256, 1 << 31, 1 << 32, 1<<32 + 3, -1 << 32, -1<<32 + 3, math.MaxInt, math.MaxInt - 1, math.MaxInt - 5, math.MaxInt - 63, math.MinInt, math.MinInt + 1, math.MinInt + 5, math.MinInt + 64}

// pte returns an entry. It is writable, and accessed, as its numbers say.
func pte(proc, page, frame int) api.Pte {
	sum := proc + page + frame
	return api.Pte{Proc: proc, Page: page, Frame: frame, Write: sum&1 != 0, Accessed: sum&2 != 0}
}

// ptes returns a list of entries with proc, page and frame in turn.
func ptes(numbers ...int) []api.Pte {
	var l []api.Pte
	for i := 0; i+2 < len(numbers); i += 3 {
		l = append(l, pte(numbers[i], numbers[i+1], numbers[i+2]))
	}
	return l
}

// whole returns the list that has an entry for each page of each process.
func whole() []api.Pte {
	var l []api.Pte
	for proc := range mostProcs {
		for page := range mostAddress {
			l = append(l, pte(proc, page, 1+(proc*7+page*page)%mostFrames))
		}
	}
	return l
}

// right returns right lists, from the least ones to the greatest one.
func right() [][]api.Pte {
	return [][]api.Pte{
		nil, {}, ptes(0, 0, 1), ptes(7, 63, 64), ptes(0, 63, 64), ptes(7, 0, 1), ptes(3, 5, 7), ptes(1, 1, 3, 2, 0, 3),
		ptes(2, 4, 9, 2, 5, 9), ptes(2, 4, 9, 2, 6, 10), ptes(2, 4, 9, 3, 4, 9), ptes(2, 5, 9, 3, 4, 9), ptes(0, 63, 5, 1, 0, 6), ptes(0, 0, 1, 7, 63, 1), ptes(0, 1, 2, 0, 3, 3, 0, 5, 2, 0, 7, 3, 0, 9, 2),
		ptes(0, 0, 1, 0, 1, 2, 0, 2, 1, 1, 0, 2, 1, 1, 1, 1, 2, 3, 2, 0, 1, 2, 1, 1, 2, 2, 1), ptes(0, 7, 40, 1, 7, 40, 2, 7, 40, 3, 7, 40, 4, 7, 40, 5, 7, 40, 6, 7, 40, 7, 7, 40), ptes(0, 0, 1, 0, 62, 64, 0, 63, 63, 3, 0, 64, 3, 31, 1, 3, 63, 64, 7, 0, 63, 7, 1, 1, 7, 63, 64),
		whole(),
	}
}

// badEntries are entries that are not right, for one reason each, and some for several.
func badEntries() []api.Pte {
	l := []api.Pte{{}, {Write: true}, {Accessed: true}, pte(0, 0, 0), pte(3, 5, 0), pte(3, 5, 65), pte(3, 64, 7), pte(8, 5, 7), pte(9, 5, 7), pte(63, 5, 7), pte(8, 64, 65), pte(-1, -1, -1)}
	for _, n := range farNumbers {
		l = append(l, pte(n, 5, 7), pte(3, n, 7), pte(3, 5, n), pte(n, n, n))
	}
	return l
}

// badLists are lists that are not right, for one reason each, and some for several.
func badLists() [][]api.Pte {
	l := [][]api.Pte{
		ptes(3, 5, 7, 3, 5, 7), ptes(3, 5, 7, 3, 5, 8), ptes(3, 5, 8, 3, 5, 7), ptes(3, 5, 7, 3, 4, 7), ptes(3, 5, 7, 2, 5, 7), ptes(3, 5, 7, 2, 6, 7), ptes(1, 0, 7, 0, 63, 7), ptes(7, 63, 64, 0, 0, 1), ptes(0, 0, 1, 0, 0, 1),
		ptes(0, 1, 2, 0, 3, 3, 0, 3, 4), ptes(0, 1, 2, 0, 3, 3, 0, 2, 4), ptes(0, 1, 2, 1, 3, 3, 1, 2, 4), ptes(0, 1, 2, 2, 3, 3, 1, 4, 4), ptes(0, 5, 2, 0, 3, 3, 0, 4, 4), ptes(1, 0, 7, 2, 0, 7, 2, 0, 7, 3, 0, 7),
		make([]api.Pte, 1), make([]api.Pte, 2), make([]api.Pte, 600), append(whole(), pte(7, 63, 1)), append(whole(), pte(0, 0, 1)), append(whole(), pte(8, 0, 1)), append(whole(), pte(7, 64, 1)),
	}
	for _, bad := range badEntries() {
		for _, r := range [][]api.Pte{right()[2], right()[8], right()[15]} {
			for i := range r {
				own := slices.Clone(r)
				own[i] = bad
				l = append(l, own)
			}
		}
	}
	return l
}

// tables are the page tables of all processes, one behind the other: the page of a process has the number 64 * process + page.
type tables map[int]api.Pte

func modelRightEntry(e api.Pte) bool {
	return 0 <= e.Proc && e.Proc < 8 && 0 <= e.Page && e.Page < 64 && 1 <= e.Frame && e.Frame <= 64
}

// modelTables puts the entries of a list into tables, and reports whether the list is the one that the tables give.
func modelTables(l []api.Pte) (tables, bool) {
	t := tables{}
	for _, e := range l {
		if !modelRightEntry(e) {
			return nil, false
		}
		t[64*e.Proc+e.Page] = e
	}
	if !slices.Equal(t.list(), l) {
		return nil, false
	}
	return t, true
}

// list returns the entries of tables in their order.
func (t tables) list() []api.Pte {
	var l []api.Pte
	for _, number := range slices.Sorted(maps.Keys(t)) {
		l = append(l, t[number])
	}
	return l
}

func modelGet(l []api.Pte, proc, page int) (api.Pte, bool) {
	t, _ := modelTables(l)
	for _, e := range t {
		if e.Proc == proc && e.Page == page {
			return e, true
		}
	}
	return api.Pte{}, false
}

func modelEnter(l []api.Pte, e api.Pte) ([]api.Pte, api.Errno) {
	t, ok := modelTables(l)
	if !ok {
		return l, api.ErrInvalid
	}
	if !modelRightEntry(e) {
		return l, api.ErrRange
	}
	t[64*e.Proc+e.Page] = e
	return t.list(), api.OK
}

// modelZap removes the pages one by one. Those ahead of the page 0 are passed at once.
func modelZap(l []api.Pte, proc, page, count int) []api.Pte {
	t, ok := modelTables(l)
	if !ok || proc < 0 || proc > 7 {
		return l
	}
	if page < 0 && count > 0 {
		page, count = 0, count+page
	}
	for ; page < 64 && count > 0; count-- {
		delete(t, 64*proc+page)
		page++
	}
	return t.list()
}

func modelOf(l []api.Pte, frame int) []api.Pte {
	t, _ := modelTables(l)
	return slices.DeleteFunc(t.list(), func(e api.Pte) bool { return e.Frame != frame })
}

func modelProtect(l []api.Pte, frame int) []api.Pte {
	next := slices.Clone(l)
	for _, e := range modelOf(l, frame) {
		next[slices.Index(next, e)].Write = false
	}
	return next
}

func modelDrop(l []api.Pte, frame int) []api.Pte {
	t, ok := modelTables(l)
	if !ok {
		return l
	}
	return slices.DeleteFunc(t.list(), func(e api.Pte) bool { return e.Frame == frame })
}

func modelYoung(l []api.Pte, frame int) ([]api.Pte, bool) {
	next := slices.Clone(l)
	accessed := 0
	for _, e := range modelOf(l, frame) {
		if e.Accessed {
			accessed++
			next[slices.Index(next, e)].Accessed = false
		}
	}
	return next, accessed > 0
}

// spare is what stands behind a list in its memory.
var spare = api.Pte{Proc: 77, Page: 777, Frame: -7, Write: true, Accessed: true}

// roomy returns a list whose memory has room for three elements more.
func roomy(l []api.Pte) []api.Pte {
	return append(slices.Clone(l), spare, spare, spare)[:len(l)]
}

// isAsBefore reports whether a list that roomy returned is as it was, also behind its end.
func isAsBefore(own, l []api.Pte) bool {
	return slices.Equal(own, l) && slices.Equal(own[:len(l)+3][len(l):], []api.Pte{spare, spare, spare})
}

// expectList calls a function, compares the list that it returns with this one, and checks that it shares no memory with its argument and does not change it.
func expectList(t *testing.T, what string, l, want []api.Pte, call func(l []api.Pte) []api.Pte) {
	t.Helper()
	own := roomy(l)
	got := call(own)
	if !slices.Equal(got, want) {
		t.Fatalf("%s of %v: %v, want %v", what, l, got, want)
	}
	got = got[:cap(got)]
	for i := range got {
		got[i] = api.Pte{Proc: -55, Page: -555, Frame: -5555}
	}
	if !isAsBefore(own, l) {
		t.Fatalf("%s of %v: the list became %v", what, l, own[:len(l)+3])
	}
}

func expectCheck(t *testing.T, l []api.Pte) {
	t.Helper()
	own := roomy(l)
	if _, want := modelTables(l); Check(own) != want || !isAsBefore(own, l) {
		t.Fatalf("Check of %v: not %v; the list became %v", l, want, own)
	}
}

func expectGet(t *testing.T, l []api.Pte, proc, page int) {
	t.Helper()
	own := roomy(l)
	e, ok := Get(own, proc, page)
	want, wantOK := modelGet(l, proc, page)
	if e != want || ok != wantOK || !isAsBefore(own, l) {
		t.Fatalf("Get of the page %d of the process %d in %v: %v and %v, want %v and %v; the list became %v", page, proc, l, e, ok, want, wantOK, own)
	}
}

func expectEnter(t *testing.T, l []api.Pte, e api.Pte) {
	t.Helper()
	want, wantErr := modelEnter(l, e)
	var err api.Errno
	expectList(t, "Enter", l, want, func(l []api.Pte) (next []api.Pte) {
		next, err = Enter(l, e)
		return next
	})
	if err != wantErr {
		t.Fatalf("Enter of %v into %v: %d, want %d", e, l, err, wantErr)
	}
}

func expectZap(t *testing.T, l []api.Pte, proc, page, count int) {
	t.Helper()
	expectList(t, "Zap", l, modelZap(l, proc, page, count), func(l []api.Pte) []api.Pte { return Zap(l, proc, page, count) })
}

// expectFrame compares all functions that are about a frame with the model.
func expectFrame(t *testing.T, l []api.Pte, frame int) {
	t.Helper()
	expectList(t, "Of", l, modelOf(l, frame), func(l []api.Pte) []api.Pte { return Of(l, frame) })
	expectList(t, "Protect", l, modelProtect(l, frame), func(l []api.Pte) []api.Pte { return Protect(l, frame) })
	expectList(t, "Drop", l, modelDrop(l, frame), func(l []api.Pte) []api.Pte { return Drop(l, frame) })
	want, wantYoung := modelYoung(l, frame)
	var young bool
	expectList(t, "Young", l, want, func(l []api.Pte) (next []api.Pte) {
		next, young = Young(l, frame)
		return next
	})
	if young != wantYoung {
		t.Fatalf("Young of the frame %d in %v: %v", frame, l, young)
	}
}
