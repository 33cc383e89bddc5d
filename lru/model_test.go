package lru

import (
	"slices"
	"testing"

	"pagecache/api"
)

// most is the greatest frame, as the limits say it.
const most = 64

// place is where a frame is: at the front of what has lesser ranks.
type place struct {
	active, referenced bool
	rank               int
}

// model has the places of all frames of the lists, and the greatest rank.
type model struct {
	places map[int]place
	top    int
}

// modelOf puts right lists into a model.
func modelOf(l api.Lru) *model {
	m := &model{places: map[int]place{}}
	for i := len(l.Inactive) - 1; i >= 0; i-- {
		m.put(l.Inactive[i], false)
	}
	for i := len(l.Active) - 1; i >= 0; i-- {
		m.put(l.Active[i], true)
	}
	for _, f := range l.Ref {
		m.refer(f)
	}
	return m
}

// put puts a frame to the front of a list, not referenced.
func (m *model) put(f int, active bool) {
	m.top++
	m.places[f] = place{active: active, rank: m.top}
}

func (m *model) refer(f int) {
	p := m.places[f]
	p.referenced = true
	m.places[f] = p
}

// list returns the frames of a list, the front first.
func (m *model) list(active bool) []int {
	byRank := map[int]int{}
	for f, p := range m.places {
		if p.active == active {
			byRank[p.rank] = f
		}
	}
	var l []int
	for rank := m.top; rank > 0; rank-- {
		if f, ok := byRank[rank]; ok {
			l = append(l, f)
		}
	}
	return l
}

// lists returns what the model has.
func (m *model) lists() api.Lru {
	l := api.Lru{Active: m.list(true), Inactive: m.list(false)}
	for f := 1; f <= most; f++ {
		if m.places[f].referenced {
			l.Ref = append(l.Ref, f)
		}
	}
	return l
}

func (m *model) add(f int, active bool) api.Errno {
	if f < 1 || f > most {
		return api.ErrRange
	}
	if _, ok := m.places[f]; ok {
		return api.ErrExists
	}
	m.put(f, active)
	return api.OK
}

func (m *model) remove(f int) api.Errno {
	if f < 1 || f > most {
		return api.ErrRange
	}
	if _, ok := m.places[f]; !ok {
		return api.ErrUnknown
	}
	delete(m.places, f)
	return api.OK
}

func (m *model) touch(f int) api.Errno {
	if f < 1 || f > most {
		return api.ErrRange
	}
	p, ok := m.places[f]
	if !ok {
		return api.ErrUnknown
	}
	if !p.referenced {
		m.refer(f)
	} else if !p.active {
		m.put(f, true)
	}
	return api.OK
}

// balance counts the lists anew ahead of each of its turns.
func (m *model) balance() {
	for turns := len(m.list(true)); turns > 0; turns-- {
		active, inactive := m.list(true), m.list(false)
		if len(active) > len(inactive) {
			last := active[len(active)-1]
			m.put(last, m.places[last].referenced)
		}
	}
}

func (m *model) scan(n int, held []int) []int {
	var victims []int
	look := m.list(false)
	for len(look) > 0 && len(victims) < n {
		f := look[len(look)-1]
		look = look[:len(look)-1]
		if slices.Contains(held, f) {
			continue
		}
		if m.places[f].referenced {
			m.put(f, false)
		} else {
			victims = append(victims, f)
		}
	}
	return victims
}

// expectLists fails if lists are others than those that are wanted, or not right.
func expectLists(t *testing.T, what string, l, got, want api.Lru) {
	t.Helper()
	if !same(got, want) {
		t.Fatalf("%s of %+v: %+v, want %+v", what, l, got, want)
	}
	if !Check(got) {
		t.Fatalf("%s of %+v: %+v is not right", what, l, got)
	}
}

// same compares lists, of which an empty one can be nil.
func same(a, b api.Lru) bool {
	return slices.Equal(a.Active, b.Active) && slices.Equal(a.Inactive, b.Inactive) && slices.Equal(a.Ref, b.Ref)
}

// expectFrame compares the functions that are about one frame of right lists with the model.
func expectFrame(t *testing.T, l api.Lru, f int) {
	t.Helper()
	for _, c := range []struct {
		what string
		do   func() (api.Lru, api.Errno)
		by   func(m *model) api.Errno
	}{
		{"Add to Inactive", func() (api.Lru, api.Errno) { return Add(l, f, false) }, func(m *model) api.Errno { return m.add(f, false) }},
		{"Add to Active", func() (api.Lru, api.Errno) { return Add(l, f, true) }, func(m *model) api.Errno { return m.add(f, true) }},
		{"Remove", func() (api.Lru, api.Errno) { return Remove(l, f) }, func(m *model) api.Errno { return m.remove(f) }},
		{"Touch", func() (api.Lru, api.Errno) { return Touch(l, f) }, func(m *model) api.Errno { return m.touch(f) }},
	} {
		m := modelOf(l)
		got, err := c.do()
		if want := c.by(m); err != want {
			t.Fatalf("%s: %d of %+v: error %d, want %d", c.what, f, l, int(err), int(want))
		}
		expectLists(t, c.what, l, got, m.lists())
	}
}

// expectBalance compares Balance of right lists with the model.
func expectBalance(t *testing.T, l api.Lru) {
	t.Helper()
	m := modelOf(l)
	m.balance()
	expectLists(t, "Balance", l, Balance(l), m.lists())
}

// expectScan compares Scan of right lists with the model.
func expectScan(t *testing.T, l api.Lru, n int, held []int) {
	t.Helper()
	m := modelOf(l)
	got, victims := Scan(l, n, held)
	if want := m.scan(n, held); !slices.Equal(victims, want) {
		t.Fatalf("Scan of %+v for %d, held %v: %v, want %v", l, n, held, victims, want)
	}
	expectLists(t, "Scan", l, got, m.lists())
}

// orders are all orders of all parts of a list.
func orders(list []int) [][]int {
	all := [][]int{nil}
	for i, f := range list {
		others := append(slices.Clone(list[:i]), list[i+1:]...)
		for _, o := range orders(others) {
			all = append(all, append([]int{f}, o...))
		}
	}
	return all
}

// parts are all parts of a list, in its order.
func parts(list []int) [][]int {
	all := [][]int{nil}
	for _, f := range list {
		for _, p := range slices.Clone(all) {
			all = append(all, append(slices.Clone(p), f))
		}
	}
	return all
}

// listsOf are all right lists of some frames: each order, divided at each place, with each part referenced.
func listsOf(frames ...int) []api.Lru {
	var all []api.Lru
	for _, o := range orders(frames) {
		for _, ref := range parts(slices.Sorted(slices.Values(o))) {
			for at := range len(o) + 1 {
				all = append(all, api.Lru{Active: slices.Clone(o[:at]), Inactive: slices.Clone(o[at:]), Ref: slices.Clone(ref)})
			}
		}
	}
	return all
}
