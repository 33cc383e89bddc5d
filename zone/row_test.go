package zone

import (
	"math/rand"
	"slices"
	"testing"

	"pagecache/api"
)

// owned are zones together with the frames that were taken from them and not given back.
type owned struct {
	l     []api.Zone
	taken []int
}

// take takes a frame, which must not be one that was taken already.
func (o owned) take(t *testing.T, prefer int, urgent bool) owned {
	t.Helper()
	next, frame, err := Take(o.l, prefer, urgent)
	if err != api.OK {
		if !same(next, o.l) {
			t.Fatalf("Take of %+v: %+v %d", o.l, next, int(err))
		}
		return o
	}
	if slices.Contains(o.taken, frame) {
		t.Fatalf("%d was taken again from %+v", frame, o.l)
	}
	return owned{next, append(slices.Clone(o.taken), frame)}
}

// give gives a frame, which works just if it was taken.
func (o owned) give(t *testing.T, frame int) owned {
	t.Helper()
	at := slices.Index(o.taken, frame)
	next, err := Give(o.l, frame)
	if (err == api.OK) != (at >= 0) {
		t.Fatalf("Give of %d to %+v, where %v are taken: %d", frame, o.l, o.taken, int(err))
	}
	if at < 0 {
		return o
	}
	return owned{next, slices.Delete(slices.Clone(o.taken), at, at+1)}
}

// expectAll expects the frames that are free and those that are taken to be all frames, each once.
func (o owned) expectAll(t *testing.T, frames int) {
	t.Helper()
	all := slices.Clone(o.taken)
	for _, z := range o.l {
		all = append(all, z.Free...)
	}
	slices.Sort(all)
	if !Check(o.l) || !slices.Equal(all, row(1, frames)) || Free(o.l) != frames-len(o.taken) {
		t.Fatalf("%+v are left, and %v are taken", o.l, o.taken)
	}
}

// everyRow does all rows of n takes and gives.
func everyRow(t *testing.T, o owned, frames, n int) {
	t.Helper()
	o.expectAll(t, frames)
	if n == 0 {
		return
	}
	for prefer := range o.l {
		everyRow(t, o.take(t, prefer, false), frames, n-1)
		everyRow(t, o.take(t, prefer, true), frames, n-1)
	}
	for frame := 1; frame <= frames; frame++ {
		everyRow(t, o.give(t, frame), frames, n-1)
	}
}

// The consequences: all rows of a few takes and gives.
func TestEveryRow(t *testing.T) {
	for _, l := range [][]api.Zone{
		mustNew(t, 2, 1), mustNew(t, 1, 1, 1), mustNew(t, 3),
		{{First: 1, Size: 2, Min: 1, Low: 1, High: 2, Free: []int{1, 2}}, {First: 3, Size: 2, Min: 1, Low: 2, High: 2, Free: []int{3, 4}}},
	} {
		everyRow(t, owned{l: l}, Free(l), 5)
	}
}

// The consequences, and all promises together: long rows in zones of up to 64 frames, beginning with all frames free.
func TestLongRows(t *testing.T) {
	r := rand.New(rand.NewSource(10))
	for _, sizes := range [][]int{{1}, {8, 8}, {64}, {16, 32, 16}, {1, 2, 4, 8, 16, 33}, {63, 1}, slices.Repeat([]int{1}, 64), slices.Repeat([]int{8}, 8)} {
		o := owned{l: mustNew(t, sizes...)}
		frames := Free(o.l)
		for turn := range 600 {
			prefer, urgent, frame := r.Intn(len(sizes)), r.Intn(4) == 0, 1+r.Intn(frames)
			expectTake(t, o.l, prefer, urgent)
			expectGive(t, o.l, frame)
			expectCounts(t, o.l)
			if filling := turn/100%2 == 0; (r.Intn(4) == 0) == filling {
				o = o.give(t, frame)
			} else {
				o = o.take(t, prefer, urgent)
			}
			o.expectAll(t, frames)
		}
	}
}

// The consequences: all frames can be taken, the last zone first, and after they were given in another order all are free again.
func TestTakeAndGiveAll(t *testing.T) {
	r := rand.New(rand.NewSource(11))
	for _, sizes := range [][]int{{1}, {8, 8}, {64}, {16, 32, 16}, {63, 1}, slices.Repeat([]int{1}, 64)} {
		full := mustNew(t, sizes...)
		var want []int
		for _, z := range slices.Backward(full) {
			want = append(want, z.Free...)
		}
		taken, l := takeAll(t, full, len(sizes)-1, true)
		if !slices.Equal(taken, want) || Free(l) != 0 {
			t.Fatalf("%v: %v were taken, and %+v is left", sizes, taken, l)
		}
		for _, k := range r.Perm(len(taken)) {
			var err api.Errno
			if l, err = Give(l, taken[k]); err != api.OK {
				t.Fatalf("%v: Give of %d: %d", sizes, taken[k], int(err))
			}
		}
		if !same(l, full) {
			t.Fatalf("%v: %+v", sizes, l)
		}
	}
}

// giveLacking gives a frame back to the first zone that has fewer free ones than its High.
func giveLacking(t *testing.T, l []api.Zone) []api.Zone {
	t.Helper()
	at := slices.IndexFunc(l, func(z api.Zone) bool { return len(z.Free) < z.High })
	if at < 0 {
		t.Fatalf("%+v: %d are wanted, but no zone lacks any", l, Want(l))
	}
	for f := l[at].First; f < l[at].First+l[at].Size; f++ {
		if next, err := Give(l, f); err == api.OK {
			return next
		}
	}
	t.Fatalf("%+v: the zone %d has no frame that is taken", l, at)
	return nil
}

// P10.3: Want counts the frames that become free where they are lacking, and after the last of them no zone lacks any.
func TestWanted(t *testing.T) {
	for _, sizes := range fewSizes {
		for _, l := range zonesOf(sizes...) {
			for want := Want(l); want > 0; want-- {
				if Want(l) != want {
					t.Fatalf("%+v: %d are wanted, want %d", l, Want(l), want)
				}
				l = giveLacking(t, l)
			}
			if Want(l) != 0 || Low(l) || slices.ContainsFunc(l, func(z api.Zone) bool { return len(z.Free) < z.High }) {
				t.Fatalf("%+v: %d are wanted, low %v", l, Want(l), Low(l))
			}
		}
	}
}
