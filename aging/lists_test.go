package aging

import (
	"slices"
	"testing"

	"pagecache/api"
)

// expectAll compares all functions with the model, for one list and these files, ticks and ages.
func expectAll(t *testing.T, l []api.Due, files, ticks []int) {
	t.Helper()
	expectCheck(t, l)
	expectOldest(t, l)
	for _, file := range files {
		expectRemove(t, l, file)
		for _, now := range ticks {
			expectAdd(t, l, file, now)
			expectAgain(t, l, file, now)
		}
	}
	for _, now := range ticks {
		for _, age := range ticks {
			expectExpired(t, l, now, age)
		}
	}
}

// longer returns all lists of one element more, with these files and ticks.
func longer(shorter [][]api.Due, files, ticks []int) [][]api.Due {
	var all [][]api.Due
	for _, l := range shorter {
		for _, file := range files {
			for _, since := range ticks {
				all = append(all, append(slices.Clone(l), api.Due{File: file, Since: since}))
			}
		}
	}
	return all
}

// P15.1, P15.2: all lists of up to three elements, right ones and others, with all that can be done with them.
func TestSmallLists(t *testing.T) {
	files, ticks := []int{-1, 0, 7, 8}, []int{-1, 0, 1, lastTick, lastTick + 1}
	lists := [][]api.Due{nil}
	for range 4 {
		for _, l := range lists {
			expectAll(t, l, append(files, 3), append(ticks, 2))
		}
		lists = longer(lists, files, ticks)
	}
}

// P15.1, P15.2: all right lists of up to five of five files, with two ticks, and with ticks around them.
func TestRightLists(t *testing.T) {
	files := []int{0, 1, 4, 6, 7}
	lists := [][]api.Due{nil}
	for range 6 {
		for _, l := range lists {
			expectAll(t, l, []int{0, 1, 2, 4, 6, 7}, []int{2, 3, 4, 5})
		}
		lists = slices.DeleteFunc(longer(lists, files, []int{3, 4}), func(l []api.Due) bool { return !modelRight(l) })
	}
}

// P15.1, P15.2: numbers far out of range, with right lists and with ones that are not right.
func TestFarNumbers(t *testing.T) {
	files := append([]int{0, 1, 2, 3, 4, 5, 6, 7}, farFiles...)
	ticks := append([]int{0, 1, 5, 6, 12, lastTick - 1, lastTick}, farTicks...)
	for _, l := range right() {
		expectAll(t, l, files, ticks)
	}
	for _, l := range badLists() {
		expectAll(t, l, []int{-1, 0, 1, 5, 7, 8}, []int{-1, 0, 6, lastTick, lastTick + 1})
	}
}

// step is what one of the operations makes of a list, by a number that chooses the operation and its arguments.
func step(l []api.Due, number int) []api.Due {
	file, now := number%11-1, number/11%5
	if len(l) > 0 {
		now += l[len(l)-1].Since - 1
	}
	switch number / 64 % 3 {
	case 0:
		l, _ = Add(l, file, now)
	case 1:
		l, _ = Remove(l, file)
	default:
		l, _ = Again(l, file, now)
	}
	return l
}

// P15.1: what the operations return for a right list is right, in long rows of operations on the same list.
func TestRows(t *testing.T) {
	for seed := range 200 {
		var l []api.Due
		number := seed
		for range 300 {
			number = (number*1103515245 + 12345) & 0x7fffffff
			before := slices.Clone(l)
			if l = step(l, number>>8); !modelRight(l) {
				t.Fatalf("%v became %v", before, l)
			}
			expectAll(t, l, []int{number >> 4 % 8}, []int{0, 3, 60})
		}
	}
}

// Consequences: a file that is written to at each tick is due at the tick at which one is due that was written to once.
func TestSteadyWriter(t *testing.T) {
	for age := range 30 {
		for file := range mostFiles {
			other := (file + 3) % mostFiles
			once, _ := Add(nil, file, 5)
			steady := once
			for now := 5; now < 50; now++ {
				var err api.Errno
				if steady, err = Add(steady, file, now); err != api.OK {
					t.Fatal(err)
				}
				if now == 6 {
					once, _ = Add(once, other, now)
					steady, _ = Add(steady, other, now)
				}
				due := slices.Contains(Expired(steady, now, age), file)
				if oldest, ok := Oldest(steady); due != (now >= 5+age) || oldest != file || !ok {
					t.Fatalf("the file %d, with age %d, at %d: due is %v, and %d is the oldest", file, age, now, due, oldest)
				}
				if got, want := Expired(steady, now, age), Expired(once, now, age); !slices.Equal(got, want) {
					t.Fatalf("the file %d, with age %d, at %d: %v are due, and %v if it was written to once", file, age, now, got, want)
				}
			}
		}
	}
}

// P15.1 and P15.2 together: with a new turn for the oldest file again and again, all files have turns in order.
func TestTurns(t *testing.T) {
	var l []api.Due
	for file := range mostFiles {
		l, _ = Add(l, file, 10)
	}
	for turn := range 3 * mostFiles {
		file, ok := Oldest(l)
		if !ok || file != turn%mostFiles {
			t.Fatalf("turn %d: %d and %v", turn, file, ok)
		}
		var err api.Errno
		if l, err = Again(l, file, 10+turn/4); err != api.OK || len(l) != mostFiles {
			t.Fatalf("turn %d: %v and %d", turn, l, err)
		}
	}
}
