package zone

import (
	"slices"
	"testing"

	"pagecache/api"
)

// most is how many frames there can be, as the limits say it.
const most = 64

// same reports whether zones are equal; a list that is nil is as one that is empty.
func same(a, b []api.Zone) bool {
	return slices.EqualFunc(a, b, func(x, y api.Zone) bool {
		return x.First == y.First && x.Size == y.Size && x.Min == y.Min && x.Low == y.Low && x.High == y.High && slices.Equal(x.Free, y.Free)
	})
}

// row has the numbers from to to, ascending.
func row(from, to int) []int {
	var l []int
	for n := from; n <= to; n++ {
		l = append(l, n)
	}
	return l
}

// model tells of each frame of right zones to which zone it belongs, and whether it is free.
type model struct {
	owner map[int]int
	free  map[int]bool
}

// modelOf counts the frames of the zones one by one.
func modelOf(l []api.Zone) model {
	m := model{owner: map[int]int{}, free: map[int]bool{}}
	frame := 0
	for i, z := range l {
		for range z.Size {
			frame++
			m.owner[frame] = i
			m.free[frame] = slices.Contains(z.Free, frame)
		}
	}
	return m
}

// frees returns the free frames of a zone, ascending.
func (m model) frees(zone int) []int {
	var l []int
	for frame := 1; frame <= len(m.owner); frame++ {
		if m.owner[frame] == zone && m.free[frame] {
			l = append(l, frame)
		}
	}
	return l
}

// zones returns the zones that the model was made of, with what is free now.
func (m model) zones(l []api.Zone) []api.Zone {
	next := slices.Clone(l)
	for i := range next {
		next[i].Free = m.frees(i)
	}
	return next
}

// take looks at all zones, and keeps the last one of those that may give a frame.
func (m model) take(l []api.Zone, prefer int, urgent bool) (int, api.Errno) {
	if prefer < 0 || prefer > len(l)-1 {
		return 0, api.ErrRange
	}
	frame := 0
	for i := 0; i <= prefer; i++ {
		free := m.frees(i)
		if len(free) > l[i].Min || urgent && len(free) != 0 {
			frame = free[0]
		}
	}
	if frame == 0 {
		return 0, api.ErrFull
	}
	m.free[frame] = false
	return frame, api.OK
}

func (m model) give(frame int) api.Errno {
	if _, ok := m.owner[frame]; !ok {
		return api.ErrRange
	}
	if m.free[frame] {
		return api.ErrExists
	}
	m.free[frame] = true
	return api.OK
}

// expectTake compares Take with the model.
func expectTake(t *testing.T, l []api.Zone, prefer int, urgent bool) {
	t.Helper()
	m := modelOf(l)
	want, wantErr := m.take(l, prefer, urgent)
	next, got, err := Take(l, prefer, urgent)
	if got != want || err != wantErr || !same(next, m.zones(l)) {
		t.Fatalf("Take of %+v from %d, urgent %v: %+v %d %d, want %+v %d %d", l, prefer, urgent, next, got, int(err), m.zones(l), want, int(wantErr))
	}
}

// expectGive compares Give with the model.
func expectGive(t *testing.T, l []api.Zone, frame int) {
	t.Helper()
	m := modelOf(l)
	wantErr := m.give(frame)
	if next, err := Give(l, frame); err != wantErr || !same(next, m.zones(l)) {
		t.Fatalf("Give of %d to %+v: %+v %d, want %+v %d", frame, l, next, int(err), m.zones(l), int(wantErr))
	}
}

// expectCounts compares Free, Low and Want with the model. Want is counted by frames that become free one by one.
func expectCounts(t *testing.T, l []api.Zone) {
	t.Helper()
	m := modelOf(l)
	free, low, want := 0, false, 0
	for i, z := range l {
		n := len(m.frees(i))
		free += n
		if n < z.Low {
			low = true
		}
		for ; n < z.High; n++ {
			want++
		}
	}
	if Free(l) != free || Low(l) != low || Want(l) != want {
		t.Fatalf("%+v: %d free, low %v, wanted %d; want %d, %v, %d", l, Free(l), Low(l), Want(l), free, low, want)
	}
}

// subsets returns all ascending lists of some of the numbers from to to.
func subsets(from, to int) [][]int {
	all := [][]int{nil}
	for n := from; n <= to; n++ {
		for _, l := range all {
			all = append(all, append(slices.Clone(l), n))
		}
	}
	return all
}

// zonesOf returns all right zones of these sizes: with all watermarks, and with all frames free that can be so.
func zonesOf(sizes ...int) [][]api.Zone {
	all := [][]api.Zone{nil}
	first := 1
	for _, size := range sizes {
		var next [][]api.Zone
		for _, z := range zonesAt(first, size) {
			for _, l := range all {
				next = append(next, append(slices.Clone(l), z))
			}
		}
		all = next
		first += size
	}
	return all
}

// zonesAt returns all right zones of a size that begin at first.
func zonesAt(first, size int) []api.Zone {
	var l []api.Zone
	for _, free := range subsets(first, first+size-1) {
		for lowest := 0; lowest <= size; lowest++ {
			for middle := lowest; middle <= size; middle++ {
				for highest := middle; highest <= size; highest++ {
					l = append(l, api.Zone{First: first, Size: size, Min: lowest, Low: middle, High: highest, Free: free})
				}
			}
		}
	}
	return l
}

// fewSizes are all sizes of up to four frames together, and some more: their right zones are few enough to look at each of them.
var fewSizes = [][]int{{1}, {2}, {1, 1}, {3}, {1, 2}, {2, 1}, {1, 1, 1}, {4}, {1, 3}, {2, 2}, {3, 1}, {1, 1, 2}, {1, 2, 1}, {2, 1, 1}, {1, 1, 1, 1}, {2, 3}}
