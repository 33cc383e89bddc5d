package layout

import (
	"math"
	"slices"
	"testing"

	"pagecache/api"
)

// What the chapter and the limits say, in numbers: slots 0 to 6, pages 0 to 7, and a slot has 2 inode sectors and 8 times 2 sectors of pages.

// home is a sector in a slot: its page, or -1 and -2 for the inode sectors.
type home struct{ slot, page int }

// homes are the sectors of all slots in their order, laid one behind the other.
func homes() []home {
	var l []home
	for slot := range 7 {
		l = append(l, home{slot, -1}, home{slot, -2})
		for page := range 8 {
			l = append(l, home{slot, page}, home{slot, page})
		}
	}
	return l
}

// badSlots are numbers that no slot has; some would be slots, or have sectors from 0 on, if the products overflowed.
func badSlots() []int {
	return []int{-1, -2, -7, 7, 8, 14, 64, 128, 1 << 32, 1 << 63 / 18, -1 << 60, 1 << 62, math.MaxInt, math.MinInt, math.MaxInt - 1, math.MinInt + 1}
}

// badPages are numbers that no page has.
func badPages() []int {
	return []int{-1, -2, -8, 8, 9, 16, 255, 256, 264, 1 << 32, 1 << 62, math.MaxInt, math.MinInt, math.MinInt + 1}
}

func span(sector, count int) api.Span { return api.Span{Sector: sector, Count: count} }

// P4.1: all sizes of devices.
func TestSlots(t *testing.T) {
	slots := 0
	for sectors := range 129 {
		if sectors == (slots+1)*18 {
			slots++
		}
		if got := Slots(sectors); got != slots {
			t.Errorf("%d sectors: %d slots, want %d", sectors, got, slots)
		}
	}
	if slots != 7 {
		t.Errorf("%d slots at most", slots)
	}
	for _, c := range [][2]int{{0, 0}, {1, 0}, {17, 0}, {18, 1}, {19, 1}, {35, 1}, {36, 2}, {100, 5}, {125, 6}, {126, 7}, {127, 7}, {128, 7}} {
		if got := Slots(c[0]); got != c[1] {
			t.Errorf("%d sectors: %d slots, want %d", c[0], got, c[1])
		}
	}
}

// P4.1: sizes that no device has.
func TestSlotsNone(t *testing.T) {
	for _, sectors := range []int{-1, -2, -17, -18, -19, -36, -128, 129, 130, 144, 145, 256, 1 << 32, 1<<32 + 36, math.MaxInt, math.MinInt, math.MinInt + 1} {
		if got := Slots(sectors); got != 0 {
			t.Errorf("%d sectors: %d slots", sectors, got)
		}
	}
}

// P4.1 and P4.2: all inode sectors and pages of all slots lie one behind the other.
func TestSectors(t *testing.T) {
	next := 0
	for slot := range 7 {
		for which := range 2 {
			if got := InodeSector(slot, which); got != next {
				t.Errorf("inode sector %d of the slot %d: %d, want %d", which, slot, got, next)
			}
			next++
		}
		for page := range 8 {
			if got := PageSector(slot, page); got != next {
				t.Errorf("page %d of the slot %d: %d, want %d", page, slot, got, next)
			}
			next += 2
		}
	}
	if next != 126 {
		t.Errorf("the slots have %d sectors", next)
	}
	if got := PageSector(1, 0); got != 20 { // example 1
		t.Errorf("page 0 of the slot 1: %d", got)
	}
}

// P4.2: slots, inode sectors and pages that do not exist.
func TestNoSectors(t *testing.T) {
	for _, slot := range append(badSlots(), 0, 1, 3, 6) {
		for _, which := range []int{-1, -2, 2, 3, 4, 18, 255, 1 << 32, math.MaxInt, math.MinInt} {
			if got := InodeSector(slot, which); got != -1 {
				t.Errorf("inode sector %d of the slot %d: %d", which, slot, got)
			}
		}
		for _, page := range badPages() {
			if got := PageSector(slot, page); got != -1 {
				t.Errorf("page %d of the slot %d: %d", page, slot, got)
			}
		}
	}
	for _, slot := range badSlots() {
		for which := range 2 {
			if got := InodeSector(slot, which); got != -1 {
				t.Errorf("inode sector %d of the slot %d: %d", which, slot, got)
			}
		}
		for page := range 8 {
			if got := PageSector(slot, page); got != -1 {
				t.Errorf("page %d of the slot %d: %d", page, slot, got)
			}
		}
	}
}

// P4.3: all sectors of all slots.
func TestOwner(t *testing.T) {
	for sector, want := range homes() {
		if slot, page := Owner(sector); slot != want.slot || page != want.page {
			t.Errorf("the sector %d: %d %d, want %v", sector, slot, page, want)
		}
	}
	for _, c := range [][3]int{{0, 0, -1}, {1, 0, -2}, {2, 0, 0}, {3, 0, 0}, {4, 0, 1}, {16, 0, 7}, {17, 0, 7}, {18, 1, -1}, {19, 1, -2}, {20, 1, 0}, {108, 6, -1}, {124, 6, 7}, {125, 6, 7}} {
		if slot, page := Owner(c[0]); slot != c[1] || page != c[2] {
			t.Errorf("the sector %d: %d %d, want %d %d", c[0], slot, page, c[1], c[2])
		}
	}
}

// P4.3: sectors in no slot, on the greatest device behind the last one and on none.
func TestOwnerNone(t *testing.T) {
	for _, sector := range []int{-1, -2, -17, -18, -19, -126, 126, 127, 128, 129, 144, 145, 255, 1 << 32, math.MaxInt, math.MinInt, math.MaxInt - 1, math.MinInt + 1} {
		if slot, page := Owner(sector); slot != -1 || page != 0 {
			t.Errorf("the sector %d: %d %d", sector, slot, page)
		}
	}
}

// The consequence: different pages and inode sectors have different sectors, and Owner finds them again.
func TestFoundAgain(t *testing.T) {
	seen := map[int]home{}
	check := func(sector int, want home) {
		if other, ok := seen[sector]; ok {
			t.Errorf("%v and %v have the sector %d", other, want, sector)
		}
		seen[sector] = want
		if slot, page := Owner(sector); slot != want.slot || page != want.page {
			t.Errorf("the sector %d of %v: %d %d", sector, want, slot, page)
		}
	}
	for slot := range Slots(api.MaxSectors) {
		for which := range 2 {
			check(InodeSector(slot, which), home{slot, -1 - which})
		}
		for page := range api.MaxPages {
			for k := range api.PageSectors {
				check(PageSector(slot, page)+k, home{slot, page})
			}
		}
	}
	if len(seen) != 7*18 {
		t.Errorf("%d sectors", len(seen))
	}
}

// P4.4: some runs in full.
func TestRuns(t *testing.T) {
	all := []int{0, 1, 2, 3, 4, 5, 6, 7}
	for _, c := range []struct {
		slot  int
		pages []int
		most  int
		want  []api.Span
	}{
		{0, []int{3, 1, 2}, 4, []api.Span{span(4, 4), span(8, 2)}}, // example 1
		{0, nil, 4, nil}, {0, []int{}, 4, nil},
		{0, []int{0}, 2, []api.Span{span(2, 2)}},
		{1, []int{0}, 128, []api.Span{span(20, 2)}},
		{6, []int{7}, 16, []api.Span{span(124, 2)}},
		{0, all, 16, []api.Span{span(2, 16)}},
		{0, all, math.MaxInt, []api.Span{span(2, 16)}},
		{0, all, math.MaxInt - 1, []api.Span{span(2, 16)}},
		{0, all, 15, []api.Span{span(2, 14), span(16, 2)}},
		{6, all, 7, []api.Span{span(110, 6), span(116, 6), span(122, 4)}},
		{0, all, 3, []api.Span{span(2, 2), span(4, 2), span(6, 2), span(8, 2), span(10, 2), span(12, 2), span(14, 2), span(16, 2)}},
		{0, []int{0, 2, 4, 6}, 16, []api.Span{span(2, 2), span(6, 2), span(10, 2), span(14, 2)}},
		{2, []int{7, 6, 4, 3, 2, 0}, 5, []api.Span{span(38, 2), span(42, 4), span(46, 2), span(50, 4)}},
		{0, []int{5, 5, 4, 5, 4}, 8, []api.Span{span(10, 4)}},
		{0, []int{-1, 0, 8, 7}, 8, []api.Span{span(2, 2), span(16, 2)}},
		{0, badPages(), 8, nil},
		{1, []int{-1, 8}, 8, nil},
	} {
		if got := Runs(c.slot, c.pages, c.most); !slices.Equal(got, c.want) {
			t.Errorf("the pages %v of the slot %d, most %d: %v, want %v", c.pages, c.slot, c.most, got, c.want)
		}
	}
}

// runsOf is what P4.4 says of the pages of a set, computed page by page: a page begins a span unless the one in front of it is in the set and its span has room.
func runsOf(slot, set, most int) []api.Span {
	var l []api.Span
	room := 0
	for page := range 8 {
		if set>>page&1 == 0 {
			room = 0
			continue
		}
		if room < 2 {
			l = append(l, span(slot*18+2+page*2, 0))
			room = most
		}
		l[len(l)-1].Count += 2
		room -= 2
	}
	return l
}

// pagesOf are the pages of a set in an order that depends on a number, some of them twice, and with some that do not exist.
func pagesOf(set, order int) []int {
	var l []int
	for i := range 8 {
		page := (i*5 + order) % 8
		if set>>page&1 == 0 {
			continue
		}
		l = append(l, page)
		if i%3 == order%3 {
			l = append(l, badPages()[(i+order)%len(badPages())], page)
		}
	}
	if order%2 == 1 {
		slices.Reverse(l)
	}
	return l
}

// P4.4: all sets of pages of all slots, in several orders.
func TestRunsOfSets(t *testing.T) {
	for slot := range 7 {
		for set := range 256 {
			for most := 2; most < 20; most++ {
				want := runsOf(slot, set, most)
				for order := range 4 {
					pages := pagesOf(set, order)
					if got := Runs(slot, pages, most); !slices.Equal(got, want) {
						t.Fatalf("the pages %v of the slot %d, most %d: %v, want %v", pages, slot, most, got, want)
					}
				}
			}
		}
	}
}

// P4.4: slots that do not exist, and too few sectors for a page.
func TestRunsNone(t *testing.T) {
	pages := []int{0, 1, 2, 7}
	for _, slot := range badSlots() {
		for _, most := range []int{math.MinInt, -1, 0, 1, 2, 16, 128, math.MaxInt} {
			if got := Runs(slot, pages, most); len(got) != 0 {
				t.Errorf("the slot %d, most %d: %v", slot, most, got)
			}
		}
	}
	for slot := range 7 {
		for _, most := range []int{1, 0, -1, -2, -16, math.MinInt, math.MinInt + 1} {
			if got := Runs(slot, pages, most); len(got) != 0 {
				t.Errorf("the slot %d, most %d: %v", slot, most, got)
			}
		}
	}
}

// P4.5: some lists in full.
func TestSplit(t *testing.T) {
	for _, c := range []struct {
		l    []api.Span
		most int
		want []api.Span
	}{
		{nil, 4, nil}, {[]api.Span{}, 4, nil},
		{[]api.Span{span(0, 1)}, 1, []api.Span{span(0, 1)}},
		{[]api.Span{span(4, 6)}, 4, []api.Span{span(4, 4), span(8, 2)}},
		{[]api.Span{span(4, 6)}, 6, []api.Span{span(4, 6)}},
		{[]api.Span{span(4, 6)}, 3, []api.Span{span(4, 3), span(7, 3)}},
		{[]api.Span{span(5, 4)}, 3, []api.Span{span(5, 3), span(8, 1)}},
		{[]api.Span{span(125, 3)}, 1, []api.Span{span(125, 1), span(126, 1), span(127, 1)}},
		{[]api.Span{span(0, 128)}, 128, []api.Span{span(0, 128)}},
		{[]api.Span{span(0, 128)}, math.MaxInt, []api.Span{span(0, 128)}},
		{[]api.Span{span(0, 128)}, 100, []api.Span{span(0, 100), span(100, 28)}},
		{[]api.Span{span(9, 3), span(2, 3), span(9, 3), span(5, 2), span(7, 2)}, 2, []api.Span{span(9, 2), span(11, 1), span(2, 2), span(4, 1), span(9, 2), span(11, 1), span(5, 2), span(7, 2)}},
		{[]api.Span{span(0, 2), span(2, 2), span(1, 2)}, 8, []api.Span{span(0, 2), span(2, 2), span(1, 2)}},
		{[]api.Span{span(-1, 3), span(6, 3), span(7, 0), span(127, 2), span(127, 1), span(128, 1)}, 2, []api.Span{span(6, 2), span(8, 1), span(127, 1)}},
	} {
		if got := Split(c.l, c.most); !slices.Equal(got, c.want) {
			t.Errorf("%v, most %d: %v, want %v", c.l, c.most, got, c.want)
		}
	}
}

// partsOf is what P4.5 says of one span, computed sector by sector.
func partsOf(x api.Span, most int) []api.Span {
	var l []api.Span
	if x.Sector < 0 || x.Sector+x.Count > 128 {
		return nil
	}
	for i := range max(x.Count, 0) {
		if i%most == 0 {
			l = append(l, span(x.Sector+i, 0))
		}
		l[len(l)-1].Count++
	}
	return l
}

// P4.5: all single spans of a device and beside it, and all of them in one list.
func TestSplitSpans(t *testing.T) {
	for _, most := range []int{1, 2, 3, 5, 8, 63, 64, 65, 127, 128, 129, 1 << 40} {
		var l, want []api.Span
		for sector := -2; sector < 131; sector++ {
			for count := -2; count < 131; count++ {
				x := span(sector, count)
				parts := partsOf(x, most)
				l = append(l, x)
				want = append(want, parts...)
				if got := Split([]api.Span{x}, most); !slices.Equal(got, parts) {
					t.Fatalf("%v, most %d: %v, want %v", x, most, got, parts)
				}
			}
		}
		if got := Split(l, most); !slices.Equal(got, want) {
			t.Errorf("all spans, most %d: %d spans, want %d", most, len(got), len(want))
		}
	}
}

// P4.5: spans that are left out, between two that are not; the ends of some overflow.
func TestSplitLeftOut(t *testing.T) {
	for _, bad := range []api.Span{
		span(0, 0), span(0, -1), span(5, math.MinInt), span(127, 0), span(0, 129), span(1, 128), span(127, 2), span(128, 0), span(128, 1), span(128, -1), span(129, 1),
		span(-1, 0), span(-1, 1), span(-1, 2), span(-5, 10), span(-128, 256), span(math.MinInt, 1), span(math.MinInt, math.MaxInt), span(math.MinInt, math.MinInt),
		span(0, math.MaxInt), span(1, math.MaxInt), span(127, math.MaxInt), span(math.MaxInt, 1), span(math.MaxInt, math.MaxInt), span(math.MaxInt, math.MinInt), span(math.MaxInt, 0),
	} {
		for _, most := range []int{1, 2, 64, 128, math.MaxInt} {
			if got := Split([]api.Span{bad}, most); len(got) != 0 {
				t.Errorf("%v, most %d: %v", bad, most, got)
			}
			good := []api.Span{span(3, 1), span(127, 1)}
			if got := Split([]api.Span{good[0], bad, good[1]}, most); !slices.Equal(got, good) {
				t.Errorf("%v between others, most %d: %v", bad, most, got)
			}
		}
	}
}

// P4.5: spans of less than one sector are none.
func TestSplitNone(t *testing.T) {
	for _, most := range []int{0, -1, -2, -128, math.MinInt, math.MinInt + 1} {
		if got := Split([]api.Span{span(0, 1), span(4, 6), span(0, 128)}, most); len(got) != 0 {
			t.Errorf("most %d: %v", most, got)
		}
	}
}

// countSectors tells how often each sector stands in spans.
func countSectors(l []api.Span) map[int]int {
	n := map[int]int{}
	for _, x := range l {
		for i := range x.Count {
			n[x.Sector+i]++
		}
	}
	return n
}

// The consequence: Runs and Split lose no sector, and have none twice.
func TestEachSectorOnce(t *testing.T) {
	for set := range 256 {
		for most := 2; most < 20; most++ {
			runs := Runs(3, pagesOf(set, most), most)
			whole, parts := countSectors(runs), countSectors(Split(runs, most%5+1))
			for at := range 129 {
				slot, page := Owner(at)
				want := 0
				if slot == 3 && page >= 0 {
					want = set >> page & 1
				}
				if whole[at] != want || parts[at] != want {
					t.Fatalf("the pages %b, most %d: the sector %d stands %d times, and %d times when split, want %d", set, most, at, whole[at], parts[at], want)
				}
			}
		}
	}
}

// R2: the arguments stay as they are, even where their slices have room behind them, and no result shares memory with them.
func TestArguments(t *testing.T) {
	pages := append(make([]int, 0, 16), 3, 1, 2, 9, 1, 7)
	behind := pages[:16]
	kept := slices.Clone(behind)
	runs := Runs(0, pages, 4)
	if !slices.Equal(behind, kept) {
		t.Errorf("Runs changed its pages to %v", behind)
	}
	l := append(make([]api.Span, 0, 16), runs...)
	whole := l[:16]
	before := slices.Clone(whole)
	parts := Split(l, 64)
	for i := range parts {
		parts[i] = span(100, 100)
	}
	if !slices.Equal(whole, before) {
		t.Errorf("Split changed its spans to %v", whole)
	}
}
