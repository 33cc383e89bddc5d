package pagetable

import (
	"slices"
	"testing"

	"pagecache/api"
)

// expectAll compares all functions but Enter with the model, for one list and these numbers.
func expectAll(t *testing.T, l []api.Pte, numbers []int) {
	t.Helper()
	expectCheck(t, l)
	for _, n := range numbers {
		expectFrame(t, l, n)
		for _, m := range numbers {
			expectGet(t, l, n, m)
			expectZap(t, l, 3, n, m)
			expectZap(t, l, n, 2, m)
		}
	}
}

// upTo returns the numbers from the first one to the last one.
func upTo(first, last int) []int {
	var numbers []int
	for n := first; n <= last; n++ {
		numbers = append(numbers, n)
	}
	return numbers
}

// P17.1, P17.3: the right lists with numbers in range, and with ones that are far from it.
func TestRightLists(t *testing.T) {
	for _, l := range right() {
		numbers := append(upTo(-2, 66), farNumbers...)
		if len(l) > 100 {
			numbers = append([]int{0, 1, 2, 7, 8, 31, 62, 63, 64}, farNumbers[:6]...)
		}
		expectAll(t, l, numbers)
	}
}

// P17.1, P17.2, P17.3: the list of all pages, with each page and each frame.
func TestWhole(t *testing.T) {
	l := whole()
	for frame := range mostFrames + 2 {
		expectFrame(t, l, frame)
	}
	for proc := range mostProcs {
		for page := range mostAddress {
			expectGet(t, l, proc, page)
			expectEnter(t, l, pte(proc, page, 1+(page+proc)%mostFrames))
			expectEnter(t, Zap(l, proc, page, 1), pte(proc, page, 1+(page+proc)%mostFrames))
		}
	}
}

// P17.2: the right lists with entries of all pages of all processes, and with ones that are not right.
func TestEnterAll(t *testing.T) {
	for _, l := range right()[:len(right())-1] {
		for proc := range mostProcs {
			for page := range mostAddress {
				expectEnter(t, l, pte(proc, page, 1+(page*5+proc)%mostFrames))
			}
		}
		for frame := range mostFrames + 2 {
			expectEnter(t, l, pte(2, 4, frame))
		}
		for _, e := range badEntries() {
			expectEnter(t, l, e)
		}
	}
}

// P17.1, P17.2, P17.3: lists that are not right, with numbers in range and others.
func TestAllBadLists(t *testing.T) {
	for _, l := range badLists() {
		expectAll(t, l, []int{-1, 0, 3, 5, 7, 64})
		for _, e := range []api.Pte{{}, pte(0, 0, 1), pte(3, 5, 7), pte(7, 63, 64)} {
			expectEnter(t, l, e)
		}
	}
}

// longer returns all lists of one entry more, with these processes, pages and frames, writable and accessed in all ways.
func longer(shorter [][]api.Pte, procs, pages, frames []int, flags int) [][]api.Pte {
	var all [][]api.Pte
	for _, l := range shorter {
		for _, proc := range procs {
			for _, page := range pages {
				for _, frame := range frames {
					for flag := range flags {
						all = append(all, append(slices.Clone(l), api.Pte{Proc: proc, Page: page, Frame: frame, Write: flag&1 == 0, Accessed: flag&2 == 0}))
					}
				}
			}
		}
	}
	return all
}

// P17.1, P17.2, P17.3: all lists of up to two entries near both ends of all ranges, right ones and others.
func TestSmallLists(t *testing.T) {
	lists := [][]api.Pte{nil}
	for range 3 {
		for _, l := range lists {
			expectAll(t, l, []int{0, 1, 64})
			expectEnter(t, l, pte(0, 1, 2))
			expectEnter(t, l, pte(7, 62, 64))
		}
		lists = longer(lists, []int{-1, 0, 1, 7, 8}, []int{-1, 0, 1, 63, 64}, []int{0, 1, 64, 65}, 1)
	}
}

// P17.1, P17.2, P17.3: all right lists of two processes, three pages and two frames of each kind of up to three entries.
func TestDenseLists(t *testing.T) {
	lists := [][]api.Pte{nil}
	for range 4 {
		for _, l := range lists {
			expectCheck(t, l)
			for frame := 1; frame <= 3; frame++ {
				expectFrame(t, l, frame)
			}
			expectEnter(t, l, api.Pte{Proc: 3, Page: 1, Frame: 1})
			for count := range 4 {
				expectZap(t, l, 3, 1, count)
			}
		}
		lists = slices.DeleteFunc(longer(lists, []int{2, 3}, []int{0, 1, 2}, []int{1, 2}, 4), func(l []api.Pte) bool {
			return len(l) > 1 && (l[len(l)-2].Proc-l[len(l)-1].Proc)*8+l[len(l)-2].Page-l[len(l)-1].Page >= 0
		})
	}
}

// step is what one of the operations makes of a list, by a number that chooses the operation and its arguments.
func step(l []api.Pte, number int) []api.Pte {
	frame := number>>3%66 - 1
	switch number % 16 {
	case 0:
		return Zap(l, number>>3%mostProcs, number>>6%mostAddress, number>>12%9)
	case 1:
		return Drop(l, frame%8)
	case 2:
		return Protect(l, frame%8)
	case 3:
		l, _ = Young(l, frame%8)
		return l
	}
	l, _ = Enter(l, pte(number>>5%mostProcs, number>>8%mostAddress, 1+number>>14%10))
	return l
}

// P17.1, P17.2, P17.3: what the operations return for a right list is right, in long rows of operations on the same list.
func TestRows(t *testing.T) {
	for seed := range 12 {
		var l []api.Pte
		number := seed
		for range 200 {
			number = (number*1103515245 + 12345) & 0x7fffffff
			before := slices.Clone(l)
			l = step(l, number>>4)
			if _, ok := modelTables(l); !ok {
				t.Fatalf("%v became %v", before, l)
			}
			expectAll(t, l, []int{number >> 3 % 8, number >> 9 % 64})
			expectEnter(t, l, pte(number>>5%8, number>>8%64, 1+number>>14%64))
		}
	}
}

// Consequences: Of is what Drop removes: what is left has none of it, and both together are the list.
func TestOfIsDropped(t *testing.T) {
	for _, l := range right() {
		for frame := range mostFrames + 2 {
			of, left := Of(l, frame), Drop(l, frame)
			for _, e := range l {
				if slices.Contains(of, e) == slices.Contains(left, e) {
					t.Fatalf("%v is in %v as in %v", e, of, left)
				}
			}
			if len(of)+len(left) != len(l) || !Check(of) || !Check(left) {
				t.Fatalf("the frame %d: %v and %v are not %v", frame, of, left, l)
			}
			if again := Of(left, frame); len(again) != 0 {
				t.Fatalf("the frame %d has %v after Drop", frame, again)
			}
		}
	}
}

// Consequences: after Protect no entry of the frame is writable, and all else is as it was; no other entry changes.
func TestProtected(t *testing.T) {
	for _, l := range right() {
		for frame := range mostFrames + 2 {
			next := Protect(l, frame)
			if len(next) != len(l) {
				t.Fatalf("%v became %v", l, next)
			}
			for i, e := range l {
				if e.Frame == frame {
					e.Write = false
				}
				if next[i] != e {
					t.Fatalf("the frame %d: %v became %v", frame, l[i], next[i])
				}
			}
		}
	}
}

// P17.3: after Young no entry of the frame is accessed, so that Young of what it returns is false, until an entry is accessed again.
func TestYoungAgain(t *testing.T) {
	for _, l := range right() {
		for frame := 1; frame <= mostFrames; frame++ {
			next, _ := Young(l, frame)
			if again, young := Young(next, frame); young || !slices.Equal(again, next) {
				t.Fatalf("the frame %d: %v became %v", frame, next, again)
			}
			for _, e := range Of(next, frame) {
				e.Accessed = true
				accessed, err := Enter(next, e)
				if err != api.OK {
					t.Fatal(err)
				}
				if again, young := Young(accessed, frame); !young || !slices.Equal(again, next) {
					t.Fatalf("the frame %d: %v became %v", frame, accessed, again)
				}
			}
		}
	}
}
