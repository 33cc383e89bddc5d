package descriptor

import (
	"slices"
	"testing"

	"pagecache/api"
)

// spare is what stands behind a list of descriptions in its memory, and spareEntry what stands behind a table.
var spare = api.Description{File: 77, Flags: 777, Offset: 7777, Cursor: -7, Refs: -77}

const spareEntry = -7777

// roomyList returns a list whose memory has room for three elements more.
func roomyList[E any](l []E, behind E) []E {
	return append(slices.Clone(l), behind, behind, behind)[:len(l)]
}

// roomy returns descriptors whose lists have room for three elements more.
func roomy(d api.Descriptors) api.Descriptors {
	own := api.Descriptors{Open: roomyList(d.Open, spare), Tables: roomyList(d.Tables, []int{spareEntry})}
	for proc, table := range own.Tables {
		own.Tables[proc] = roomyList(table, spareEntry)
	}
	return own
}

// isAsBefore reports whether descriptors that roomy returned are as they were, also behind the ends of their lists.
func isAsBefore(own, d api.Descriptors) bool {
	if !same(own, d) || !slices.Equal(own.Open[:len(d.Open)+3][len(d.Open):], []api.Description{spare, spare, spare}) {
		return false
	}
	for _, table := range own.Tables {
		if !slices.Equal(table[:len(table)+3][len(table):], []int{spareEntry, spareEntry, spareEntry}) {
			return false
		}
	}
	for _, behind := range own.Tables[:len(d.Tables)+3][len(d.Tables):] {
		if !slices.Equal(behind, []int{spareEntry}) {
			return false
		}
	}
	return true
}

// scribble writes over all memory of descriptors, and reports whether no two of their tables share some.
func scribble(d api.Descriptors) bool {
	for i := range d.Open[:cap(d.Open)] {
		d.Open[:cap(d.Open)][i] = api.Description{File: -55, Flags: -555, Offset: -5555, Cursor: 5, Refs: 55}
	}
	for proc, table := range d.Tables {
		for i := range table[:cap(table)] {
			table[:cap(table)][i] = -1000 - proc
		}
	}
	apart := true
	for proc, table := range d.Tables {
		apart = apart && !slices.ContainsFunc(table, func(entry int) bool { return entry != -1000-proc })
	}
	for i := range d.Tables[:cap(d.Tables)] {
		d.Tables[:cap(d.Tables)][i] = nil
	}
	return apart
}

// expectChange calls a function, compares the descriptors that it returns with these, and checks that it shares no memory with its argument and does not change it.
func expectChange(t *testing.T, what string, d, want api.Descriptors, call func(d api.Descriptors) api.Descriptors) {
	t.Helper()
	own := roomy(d)
	got := call(own)
	if !same(got, want) {
		t.Fatalf("%s of %v: %v, want %v", what, d, got, want)
	}
	if !isAsBefore(own, d) {
		t.Fatalf("%s of %v: the argument became %v", what, d, own)
	}
	if !scribble(got) {
		t.Fatalf("%s of %v: two tables share memory", what, d)
	}
	if !isAsBefore(own, d) {
		t.Fatalf("%s of %v: the result shares memory with the argument", what, d)
	}
}

// expectNumbers compares other results with those that are wanted.
func expectNumbers[E comparable](t *testing.T, what string, d api.Descriptors, got, want E, err, wantErr api.Errno) {
	t.Helper()
	if got != want || err != wantErr {
		t.Fatalf("%s of %v: %v and %d, want %v and %d", what, d, got, err, want, wantErr)
	}
}

func expectOpen(t *testing.T, d api.Descriptors, proc, file, flags, cursor int) {
	t.Helper()
	want, wantFd, wantErr := modelOpen(d, proc, file, flags, cursor)
	var fd int
	var err api.Errno
	expectChange(t, "Open", d, want, func(d api.Descriptors) (next api.Descriptors) {
		next, fd, err = Open(d, proc, file, flags, cursor)
		return next
	})
	expectNumbers(t, "Open", d, fd, wantFd, err, wantErr)
}

func expectDup(t *testing.T, d api.Descriptors, proc, fd int) {
	t.Helper()
	want, wantTwin, wantErr := modelDup(d, proc, fd)
	var twin int
	var err api.Errno
	expectChange(t, "Dup", d, want, func(d api.Descriptors) (next api.Descriptors) {
		next, twin, err = Dup(d, proc, fd)
		return next
	})
	expectNumbers(t, "Dup", d, twin, wantTwin, err, wantErr)
}

func expectFork(t *testing.T, d api.Descriptors, from, to int) {
	t.Helper()
	want, wantErr := modelFork(d, from, to)
	var err api.Errno
	expectChange(t, "Fork", d, want, func(d api.Descriptors) (next api.Descriptors) {
		next, err = Fork(d, from, to)
		return next
	})
	expectNumbers(t, "Fork", d, 0, 0, err, wantErr)
}

func expectClose(t *testing.T, d api.Descriptors, proc, fd int) {
	t.Helper()
	want, wantGone, wantErr := modelClose(d, proc, fd)
	var gone bool
	var err api.Errno
	expectChange(t, "Close", d, want, func(d api.Descriptors) (next api.Descriptors) {
		next, gone, err = Close(d, proc, fd)
		return next
	})
	expectNumbers(t, "Close", d, gone, wantGone, err, wantErr)
}

func expectUpdate(t *testing.T, d api.Descriptors, n int, x api.Description) {
	t.Helper()
	want, wantErr := modelUpdate(d, n, x)
	var err api.Errno
	expectChange(t, "Update", d, want, func(d api.Descriptors) (next api.Descriptors) {
		next, err = Update(d, n, x)
		return next
	})
	expectNumbers(t, "Update", d, 0, 0, err, wantErr)
}

func expectLookup(t *testing.T, d api.Descriptors, proc, fd int) {
	t.Helper()
	own := roomy(d)
	n, x, err := Lookup(own, proc, fd)
	wantN, want, wantErr := modelLookup(d, proc, fd)
	expectNumbers(t, "Lookup", d, x, want, err, wantErr)
	expectNumbers(t, "Lookup", d, n, wantN, err, wantErr)
	if !isAsBefore(own, d) {
		t.Fatalf("Lookup of %v: the argument became %v", d, own)
	}
}

func expectCheck(t *testing.T, d api.Descriptors) {
	t.Helper()
	own := roomy(d)
	if _, want := read(d); Check(own) != want || !isAsBefore(own, d) {
		t.Fatalf("Check of %v: not %v; the argument became %v", d, want, own)
	}
}

// expectProc compares what is done with a descriptor of a process with the model.
func expectProc(t *testing.T, d api.Descriptors, proc, fd int) {
	t.Helper()
	expectDup(t, d, proc, fd)
	expectClose(t, d, proc, fd)
	expectLookup(t, d, proc, fd)
}

// expectAll compares all functions with the model, for these descriptors and these numbers.
func expectAll(t *testing.T, d api.Descriptors, numbers []int) {
	t.Helper()
	expectCheck(t, d)
	for _, n := range numbers {
		expectOpen(t, d, n, 3, 1, 5)
		expectOpen(t, d, 0, n, 6, 0)
		expectOpen(t, d, 0, 7, n, lastCursor)
		expectOpen(t, d, 0, 0, 3, n)
		expectUpdate(t, d, n, api.Description{Offset: 7, Cursor: 9})
		expectUpdate(t, d, 0, api.Description{Offset: n, Cursor: 9, Flags: n, Refs: n})
		expectUpdate(t, d, 0, api.Description{File: n, Offset: 7, Cursor: n})
		for _, m := range numbers {
			expectProc(t, d, n, m)
			expectFork(t, d, n, m)
		}
	}
}
