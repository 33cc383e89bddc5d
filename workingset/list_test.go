package workingset

import (
	"math/rand"
	"slices"
	"testing"

	"pagecache/api"
)

// memory is a list of pages, the newest one first, that has a clock and the shadows of the pages that it evicted.
type memory struct {
	room    int
	refresh bool // a page that is used again becomes the newest one
	pages   []int
	clock   int
	shadows map[int]int
	entered []int // all pages that ever came in, the newest one first
}

func newMemory(room int, refresh bool) *memory {
	return &memory{room: room, refresh: refresh, shadows: map[int]int{}}
}

// use brings a page in, unless it is there.
func (m *memory) use(t *testing.T, page int) {
	if at := slices.Index(m.pages, page); at >= 0 {
		if m.refresh {
			m.pages = slices.Insert(slices.Delete(m.pages, at, at+1), 0, page)
		}
		return
	}
	if len(m.pages) == m.room {
		m.evict(t)
	}
	m.pages = slices.Insert(m.pages, 0, page)
	m.entered = slices.Insert(m.entered, 0, page)
	delete(m.shadows, page)
}

// evict takes the oldest page out.
func (m *memory) evict(t *testing.T) {
	last := len(m.pages) - 1
	shadow, err := Shadow(m.clock)
	if err != api.OK {
		t.Fatalf("no shadow at %d: %d", m.clock, int(err))
	}
	m.shadows[m.pages[last]] = shadow
	m.pages = m.pages[:last]
	m.clock++
}

// distance returns the distance of a page that comes back; false if it does not.
func (m *memory) distance(t *testing.T, page int) (int, bool) {
	shadow, ok := m.shadows[page]
	if !ok {
		return 0, false
	}
	d, err := Distance(m.clock, shadow)
	if err != api.OK || d < 1 {
		t.Fatalf("the shadow %d at %d: distance %d %d", shadow, m.clock, d, int(err))
	}
	return d, true
}

// expectFirstIn uses a row of pages, where the oldest page is the one that came in first: a page that comes back with the distance d is among the room + d pages that came in last, and in no fewer ones. So Activate tells whether active more frames would have kept it.
func expectFirstIn(t *testing.T, room int, row []int) int {
	m, back := newMemory(room, false), 0
	for _, page := range row {
		if d, ok := m.distance(t, page); ok {
			back++
			if at := slices.Index(m.entered, page); at != room+d-1 {
				t.Fatalf("%v in %d frames: the distance %d, but %d pages came in later", row, room, d, at)
			}
			for active := range len(row) + 2 {
				kept := slices.Contains(m.entered[:min(room+active, len(m.entered))], page)
				expectActivate(t, m.clock, m.shadows[page], active, kept)
			}
		}
		m.use(t, page)
	}
	return back
}

// expectLastUsed uses a row of pages, where the oldest page is the one that was used last: a page that comes back with the distance d is still in a list that is longer by d.
func expectLastUsed(t *testing.T, room int, row []int) int {
	m, back := newMemory(room, true), 0
	for i, page := range row {
		if d, ok := m.distance(t, page); ok {
			back++
			longer := newMemory(room+d, true)
			for _, p := range row[:i] {
				longer.use(t, p)
			}
			if !slices.Contains(longer.pages, page) {
				t.Fatalf("%v in %d frames: at %d the distance is %d, but a list that is longer by it has %v", row, room, i, d, longer.pages)
			}
		}
		m.use(t, page)
	}
	return back
}

// The consequence, and P9.1 to P9.3 together: all rows of 7 uses of 5 pages.
func TestLongerListAll(t *testing.T) {
	first, last := 0, 0
	for n := range 5 * 5 * 5 * 5 * 5 * 5 * 5 {
		var row []int
		for k := n; len(row) < 7; k /= 5 {
			row = append(row, k%5)
		}
		for room := 1; room <= 3; room++ {
			first += expectFirstIn(t, room, row)
			last += expectLastUsed(t, room, row)
		}
	}
	if first == 0 || last == 0 {
		t.Error("no page came back")
	}
}

// The consequence, and P9.1 to P9.3 together: long rows of many pages, in lists of up to 64 frames.
func TestLongerListLong(t *testing.T) {
	r := rand.New(rand.NewSource(9))
	first, last := 0, 0
	for _, room := range []int{1, 2, 5, 16, 40, 64} {
		for _, pages := range []int{room + 1, room + 2, 2 * room, 3*room + 5} {
			var row []int
			for range 250 {
				row = append(row, r.Intn(pages))
			}
			first += expectFirstIn(t, room, row)
			last += expectLastUsed(t, room, row)
		}
	}
	if first == 0 || last == 0 {
		t.Error("no page came back")
	}
}

// The consequence: pages that are used in turn, one more than there are frames, come back one eviction after their own one.
func TestLongerListTurns(t *testing.T) {
	for room := 1; room <= 64; room++ {
		m := newMemory(room, false)
		for i := range 5 * room {
			page := i % (room + 1)
			if d, ok := m.distance(t, page); ok != (i > room) || ok && d != 1 {
				t.Fatalf("%d frames: use %d: distance %d %v", room, i, d, ok)
			}
			m.use(t, page)
		}
	}
}
