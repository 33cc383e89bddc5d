package descriptor

import (
	"slices"
	"testing"

	"pagecache/api"
)

// upTo returns the numbers from the first one to the last one.
func upTo(first, last int) []int {
	var numbers []int
	for n := first; n <= last; n++ {
		numbers = append(numbers, n)
	}
	return numbers
}

// P18.1 to P18.5: the right descriptors with numbers in range and others.
func TestRightStates(t *testing.T) {
	for _, d := range right() {
		expectAll(t, d, slices.Concat(upTo(-1, 17), []int{127, 128, 129, lastCursor, lastCursor + 1}))
	}
	for _, d := range []api.Descriptors{right()[0], family()} {
		expectAll(t, d, append([]int{0, 1, 2}, farNumbers...))
	}
}

// P18.2 to P18.5: descriptors that are not right, with numbers in range and others.
func TestBadStates(t *testing.T) {
	for _, d := range bad() {
		expectAll(t, d, []int{-1, 0, 1, 3, 16})
	}
}

// P18.1: all tables with up to three descriptors in two processes, with descriptions of all small numbers of descriptors.
func TestSmallStates(t *testing.T) {
	for number := range 4 * 4 * 4 * 5 * 5 * 5 {
		d := api.Descriptors{Tables: [][]int{table(number%4, number/4%4), table(0, number/16%4)}}
		for _, refs := range []int{number / 64 % 5, number / 320 % 5, number / 1600 % 5} {
			x := description(refs, 3, refs*refs, 7, refs)
			if refs == 0 {
				x = api.Description{}
			}
			if refs < 4 { // else there is one description less
				d.Open = append(d.Open, x)
			}
		}
		expectCheck(t, d)
		if Check(d) {
			expectAll(t, d, upTo(-1, 4))
		}
	}
}

// step is what one of the operations makes of descriptors, by a number that chooses the operation and its arguments. There are more Opens and Dups the fewer descriptors are in use.
func step(d api.Descriptors, number, calm int) api.Descriptors {
	proc, fd := number>>3%len(d.Tables), number>>6%mostOpen
	switch kind := number >> 10 % 16; {
	case kind < calm:
		d, _, _ = Close(d, proc, fd)
	case kind < 9:
		d, _, _ = Open(d, proc, number>>14%8, goodFlags[number>>17%6], number>>12%1000)
	case kind < 12:
		d, _, _ = Dup(d, proc, fd)
	case kind < 14:
		d, _ = Fork(d, proc, number>>18%len(d.Tables))
	default:
		d, _ = Update(d, number>>14%20, api.Description{Offset: number >> 8 % 140, Cursor: number >> 5 % 10000})
	}
	return d
}

// P18.1 to P18.5: what the operations return for right descriptors is right, in long rows of operations on the same descriptors, in which more or less of them are closed.
func TestRows(t *testing.T) {
	for seed := range 24 {
		d, _ := New(1 + seed%mostProcs)
		number := seed
		for i := range 400 {
			number = (number*1103515245 + 12345) & 0x7fffffff
			before := copyOf(d)
			d = step(d, number>>2, []int{1, 3, 5, 8}[(i/50+seed)%4])
			if _, ok := read(d); !ok {
				t.Fatalf("%v became %v", before, d)
			}
			expectCheck(t, d)
			expectProc(t, d, number>>4%len(d.Tables), number>>8%mostOpen)
			expectOpen(t, d, number>>4%len(d.Tables), number>>8%8, 1, 5)
			expectFork(t, d, number>>4%mostProcs, number>>8%mostProcs)
			expectUpdate(t, d, number>>4%24, api.Description{Offset: 7, Cursor: 9})
		}
	}
}

// goOn checks all that can happen in so many further steps to two processes.
func goOn(t *testing.T, d api.Descriptors, steps int) {
	expectAll(t, d, []int{0, 1, 2})
	if steps == 0 {
		return
	}
	for proc := range 2 {
		opened, _, _ := Open(d, proc, steps%8, 3, steps)
		goOn(t, opened, steps-1)
		if forked, err := Fork(d, proc, 1-proc); err == api.OK {
			goOn(t, forked, steps-1)
		}
		for fd := range 3 {
			if twin, _, err := Dup(d, proc, fd); err == api.OK {
				goOn(t, twin, steps-1)
			}
			if closed, _, err := Close(d, proc, fd); err == api.OK {
				goOn(t, closed, steps-1)
			}
		}
	}
}

// P18.2 to P18.5: all rows of a few steps, from nothing on and from descriptors with holes.
func TestAllRows(t *testing.T) {
	goOn(t, api.Descriptors{Tables: freeTables(2)}, 4)
	goOn(t, api.Descriptors{Open: []api.Description{{}, description(3, 1, 2, 1, 2)}, Tables: [][]int{table(0, 2, 2), table()}}, 3)
}

// mustOpen opens a file that is there, and returns its descriptor.
func mustOpen(t *testing.T, d api.Descriptors, proc, file int) (api.Descriptors, int) {
	t.Helper()
	d, fd, err := Open(d, proc, file, 3, file)
	if err != api.OK {
		t.Fatal(err)
	}
	return d, fd
}

// Consequences: what came from one Open by Dup and Fork has one offset and one cursor; what came from others has its own.
func TestSharing(t *testing.T) {
	d, _ := New(3)
	d, first := mustOpen(t, d, 0, 4)
	d, other := mustOpen(t, d, 0, 4)
	d, twin, _ := Dup(d, 0, first)
	d, _ = Fork(d, 0, 1)
	d, own := mustOpen(t, d, 1, 4)
	d, late, _ := Dup(d, 1, twin)
	d, _ = Fork(d, 1, 2)
	together := map[[2]int]bool{{0, first}: true, {0, twin}: true, {1, first}: true, {1, twin}: true, {1, late}: true, {2, first}: true, {2, twin}: true, {2, late}: true}
	apart := map[[2]int]bool{{0, other}: true, {1, other}: true, {1, own}: true, {2, other}: true, {2, own}: true}
	for from := range together {
		n, x, _ := Lookup(d, from[0], from[1])
		x.Offset, x.Cursor = 1+from[0]*16+from[1], 50+from[0]*16+from[1]
		next, err := Update(d, n, x)
		if err != api.OK {
			t.Fatal(err)
		}
		for at := range together {
			if _, y, _ := Lookup(next, at[0], at[1]); y != x {
				t.Errorf("%v has %v, and %v has %v", from, x, at, y)
			}
		}
		for at := range apart {
			if _, y, _ := Lookup(next, at[0], at[1]); y.Offset != 0 || y.Cursor != 4 {
				t.Errorf("%v has %v, and %v has %v", from, x, at, y)
			}
		}
	}
}

// Consequences: Open returns the least descriptor that is free, whatever was closed, up to the last one.
func TestLeastFree(t *testing.T) {
	for _, closed := range [][]int{nil, {0}, {15}, {3, 7}, {7, 3}, {0, 1, 2}, {15, 0, 14, 1}, {8, 9, 10, 4}, upTo(0, 15)} {
		d, _ := New(2)
		for want := range mostOpen {
			var fd int
			if d, fd = mustOpen(t, d, 1, 2); fd != want {
				t.Fatalf("%d, want %d", fd, want)
			}
		}
		for _, fd := range closed {
			var gone bool
			var err api.Errno
			if d, gone, err = Close(d, 1, fd); !gone || err != api.OK {
				t.Fatalf("%d: %v and %d", fd, gone, err)
			}
		}
		for _, want := range slices.Sorted(slices.Values(closed)) {
			var fd int
			if d, fd = mustOpen(t, d, 1, 2); fd != want {
				t.Errorf("%v were closed: %d, want %d", closed, fd, want)
			}
		}
		if _, _, err := Open(d, 1, 2, 3, 0); err != api.ErrFull {
			t.Errorf("%v were closed: %d, want no free descriptor", closed, err)
		}
	}
}

// P18.2, P18.4: all processes open all that they can, and close it in another order; at the end there is no description.
func TestAllOpen(t *testing.T) {
	for _, stride := range []int{1, 3, 37, 127} {
		d, _ := New(mostProcs)
		for i := range mostProcs * mostOpen {
			d, _ = mustOpen(t, d, i*stride%mostProcs, i%8)
		}
		if len(d.Open) != 128 || !Check(d) {
			t.Fatalf("%d descriptions: %v", len(d.Open), d)
		}
		for i := range mostProcs * mostOpen {
			at := i * stride % (mostProcs * mostOpen)
			var gone bool
			var err api.Errno
			if d, gone, err = Close(d, at/mostOpen, at%mostOpen); !gone || err != api.OK || !Check(d) {
				t.Fatalf("%d: %v, %v and %d", at, d, gone, err)
			}
		}
		if !same(d, api.Descriptors{Tables: freeTables(mostProcs)}) {
			t.Errorf("%v is left", d)
		}
	}
}
