package descriptor

import (
	"math"
	"slices"
	"testing"

	"pagecache/api"
)

// Example 1.
func TestExample(t *testing.T) {
	d, _ := New(1)
	var fds []int
	for range 2 {
		var fd int
		d, fd, _ = Open(d, 0, 2, 1, 0)
		fds = append(fds, fd)
	}
	d, _, _ = Close(d, 0, 0)
	_, fd, err := Dup(d, 0, 1)
	if fds = append(fds, fd); !slices.Equal(fds, []int{0, 1, 0}) || err != api.OK {
		t.Errorf("%v and %d", fds, err)
	}
}

// P18.1: New returns tables of MaxOpen free descriptors, which share no memory, and no descriptions.
func TestNew(t *testing.T) {
	for procs := 1; procs <= 8; procs++ {
		d, err := New(procs)
		if !same(d, api.Descriptors{Tables: freeTables(procs)}) || err != api.OK || !Check(d) {
			t.Errorf("%d processes: %v and %d", procs, d, err)
		}
		if !scribble(d) {
			t.Errorf("%d processes: two tables share memory", procs)
		}
		if again, _ := New(procs); !same(again, api.Descriptors{Tables: freeTables(procs)}) {
			t.Errorf("%d processes, once more: %v", procs, again)
		}
	}
}

// P18.1: numbers of processes that there cannot be.
func TestNewRange(t *testing.T) {
	for _, procs := range append([]int{0, 9, 10, 16, 64}, farNumbers...) {
		if d, err := New(procs); !same(d, api.Descriptors{}) || err != api.ErrRange {
			t.Errorf("%d processes: %v and %d", procs, d, err)
		}
	}
}

// P18.1: right descriptors, and ones that are not right.
func TestCheckCases(t *testing.T) {
	for i, d := range right() {
		if expectCheck(t, d); !Check(d) {
			t.Errorf("%d: %v are right", i, d)
		}
	}
	for i, d := range bad() {
		if expectCheck(t, d); Check(d) {
			t.Errorf("%d: %v are not right", i, d)
		}
	}
}

// P18.1: the first and the last number that each field can have, and those beside them.
func TestCheckEdges(t *testing.T) {
	for i, c := range []struct {
		x    api.Description
		want bool
	}{
		{description(0, 1, 0, 0, 1), true}, {description(7, 1, 0, 0, 1), true}, {description(8, 1, 0, 0, 1), false}, {description(-1, 1, 0, 0, 1), false},
		{description(0, 0, 0, 0, 1), false}, {description(0, 2, 0, 0, 1), true}, {description(0, 3, 0, 0, 1), true}, {description(0, 4, 0, 0, 1), false}, {description(0, 5, 0, 0, 1), true}, {description(0, 6, 0, 0, 1), true}, {description(0, 7, 0, 0, 1), true}, {description(0, 8, 0, 0, 1), false}, {description(0, 9, 0, 0, 1), false}, {description(0, -1, 0, 0, 1), false},
		{description(0, 1, 128, 0, 1), true}, {description(0, 1, 129, 0, 1), false}, {description(0, 1, -1, 0, 1), false}, {description(0, 1, 0, 1000000, 1), true}, {description(0, 1, 0, 1000001, 1), false}, {description(0, 1, 0, -1, 1), false},
		{description(0, 1, 0, 0, 0), false}, {description(0, 1, 0, 0, 2), false}, {description(0, 1, 0, 0, -1), false}, {api.Description{}, false},
	} {
		if got := Check(api.Descriptors{Open: []api.Description{c.x}, Tables: [][]int{table(1)}}); got != c.want {
			t.Errorf("%d: %v for %v", i, got, c.x)
		}
	}
}

// openCase is a call of Open for the descriptors d, written down by hand, and what is expected of it; want is nil if d stays as it is.
type openCase struct {
	d                         api.Descriptors
	proc, file, flags, cursor int
	want                      *api.Descriptors
	fd                        int
	err                       api.Errno
}

func expectOpens(t *testing.T, cases ...openCase) {
	t.Helper()
	for _, c := range cases {
		want := c.d
		if c.want != nil {
			want = *c.want
		}
		got, fd, err := Open(c.d, c.proc, c.file, c.flags, c.cursor)
		if !same(got, want) || fd != c.fd || err != c.err {
			t.Errorf("Open of %v: %v, %d and %d, want %v, %d and %d", c.d, got, fd, err, want, c.fd, c.err)
		}
		expectOpen(t, c.d, c.proc, c.file, c.flags, c.cursor)
	}
}

// P18.2: the least free descriptor gets a description in the first place that is zero, or at the end.
func TestOpenCases(t *testing.T) {
	none := api.Descriptors{Tables: freeTables(2)}
	first := api.Descriptors{Open: []api.Description{description(7, 6, 0, 1000000, 1)}, Tables: [][]int{table(), table(1)}}
	hole, behind := family(), family()
	hole.Open[1], hole.Tables[0][1] = description(4, 1, 0, 9, 1), 2
	behind.Open[1], behind.Tables[2][0] = description(4, 1, 0, 9, 1), 2
	end := api.Descriptors{Open: []api.Description{description(3, 3, 5, 6, 2), description(3, 3, 0, 6, 1)}, Tables: [][]int{table(1, 2, 1)}}
	lastFd := right()[11]
	lastFd.Open, lastFd.Tables[0][15] = append(lastFd.Open, description(0, 2, 0, 0, 1)), 16
	last := whole()
	last.Open[77], last.Tables[4][13] = api.Description{}, 0
	lastWant := whole()
	lastWant.Open[77] = description(1, 7, 0, 2, 1)
	lastWant.Tables[4][13] = 78
	expectOpens(t,
		openCase{none, 1, 7, 6, 1000000, &first, 0, api.OK}, openCase{family(), 0, 4, 1, 9, &hole, 1, api.OK}, openCase{family(), 2, 4, 1, 9, &behind, 0, api.OK},
		openCase{api.Descriptors{Open: []api.Description{description(3, 3, 5, 6, 2)}, Tables: [][]int{table(1, 0, 1)}}, 0, 3, 3, 6, &end, 1, api.OK}, openCase{right()[11], 0, 0, 2, 0, &lastFd, 15, api.OK}, openCase{last, 4, 1, 7, 2, &lastWant, 13, api.OK},
	)
}

// P18.2: the errors of Open, and each of them ahead of those that come behind it.
func TestOpenErrors(t *testing.T) {
	wrong, full := withOpen(family().Open[:5]...), right()[6]
	expectOpens(t,
		openCase{d: wrong, flags: 1, err: api.ErrInvalid}, openCase{d: wrong, proc: -1, err: api.ErrInvalid}, openCase{d: wrong, file: 9, err: api.ErrInvalid}, openCase{d: api.Descriptors{}, flags: 1, err: api.ErrInvalid},
		openCase{d: full, proc: 3, flags: 1, err: api.ErrRange}, openCase{d: full, proc: -1, flags: 1, err: api.ErrRange}, openCase{d: full, proc: 8, flags: 1, err: api.ErrRange}, openCase{d: full, proc: math.MinInt, flags: 1, err: api.ErrRange}, openCase{d: full, proc: math.MaxInt, flags: 1, err: api.ErrRange},
		openCase{d: full, proc: 1, file: -1, flags: 1, err: api.ErrRange}, openCase{d: full, proc: 1, file: 8, flags: 1, err: api.ErrRange}, openCase{d: full, proc: 1, err: api.ErrRange}, openCase{d: full, proc: 1, flags: 4, err: api.ErrRange}, openCase{d: full, proc: 1, flags: 8, err: api.ErrRange}, openCase{d: full, proc: 1, flags: -1, err: api.ErrRange}, openCase{d: full, proc: 1, flags: 1, cursor: -1, err: api.ErrRange}, openCase{d: full, proc: 1, flags: 1, cursor: 1000001, err: api.ErrRange},
		openCase{d: family(), file: 8, flags: 1, err: api.ErrRange}, openCase{d: family(), flags: 9, err: api.ErrRange}, openCase{d: family(), flags: 4, err: api.ErrRange}, openCase{d: family(), flags: 1, cursor: 1000001, err: api.ErrRange}, openCase{d: family(), proc: 4, flags: 1, err: api.ErrRange},
		openCase{d: full, proc: 1, flags: 1, err: api.ErrFull}, openCase{d: whole(), proc: 7, flags: 1, err: api.ErrFull}, openCase{d: shared(), proc: 0, flags: 1, err: api.ErrFull},
	)
}

// P18.3: the errors of Dup and of Fork, and each of them ahead of those that come behind it.
func TestShareErrors(t *testing.T) {
	wrong, full := withOpen(family().Open[:5]...), right()[6]
	for i, c := range []struct {
		d        api.Descriptors
		proc, fd int
		want     api.Errno
	}{
		{wrong, 0, 0, api.ErrInvalid}, {wrong, -1, 0, api.ErrInvalid}, {wrong, 0, 1, api.ErrInvalid}, {api.Descriptors{}, 0, 0, api.ErrInvalid},
		{full, -1, 0, api.ErrRange}, {full, 3, 0, api.ErrRange}, {full, 3, -1, api.ErrRange}, {family(), 4, 0, api.ErrRange}, {family(), 8, 16, api.ErrRange},
		{family(), 0, 1, api.ErrUnknown}, {family(), 3, 0, api.ErrUnknown}, {family(), 0, -1, api.ErrUnknown}, {family(), 0, 16, api.ErrUnknown}, {full, 1, -1, api.ErrUnknown}, {full, 1, 16, api.ErrUnknown}, {full, 0, 0, api.ErrUnknown}, {family(), 2, math.MaxInt, api.ErrUnknown}, {family(), 2, math.MinInt, api.ErrUnknown},
		{full, 1, 0, api.ErrFull}, {full, 1, 15, api.ErrFull}, {shared(), 7, 15, api.ErrFull},
	} {
		if got, fd, err := Dup(c.d, c.proc, c.fd); !same(got, c.d) || fd != 0 || err != c.want {
			t.Errorf("%d: Dup returns %v, %d and %d, want %d", i, got, fd, err, c.want)
		}
	}
	for i, c := range []struct {
		d        api.Descriptors
		from, to int
		want     api.Errno
	}{
		{wrong, 0, 3, api.ErrInvalid}, {wrong, 0, 0, api.ErrInvalid}, {wrong, 0, 1, api.ErrInvalid}, {wrong, -1, 9, api.ErrInvalid},
		{family(), 0, 0, api.ErrRange}, {family(), 3, 3, api.ErrRange}, {family(), 4, 3, api.ErrRange}, {family(), -1, 3, api.ErrRange}, {family(), 0, 4, api.ErrRange}, {family(), 0, -1, api.ErrRange}, {family(), 4, 0, api.ErrRange}, {family(), -1, 0, api.ErrRange}, {family(), 4, 4, api.ErrRange}, {family(), math.MaxInt, 0, api.ErrRange}, {family(), 0, math.MinInt, api.ErrRange},
		{family(), 0, 1, api.ErrExists}, {family(), 0, 2, api.ErrExists}, {family(), 3, 0, api.ErrExists}, {family(), 3, 2, api.ErrExists}, {full, 0, 1, api.ErrExists},
	} {
		if got, err := Fork(c.d, c.from, c.to); !same(got, c.d) || err != c.want {
			t.Errorf("%d: Fork returns %v and %d, want %d", i, got, err, c.want)
		}
	}
}

// P18.3: Dup gives the least free descriptor of the same process the description.
func TestDupCases(t *testing.T) {
	for i, c := range []struct {
		proc, fd, want int
		tables         [][]int
		refs           [3]int
	}{
		{0, 0, 1, [][]int{table(1, 1, 6, 1), table(1, 0, 6), family().Tables[2], table()}, [3]int{4, 1, 2}},
		{0, 3, 1, [][]int{table(1, 1, 6, 1), table(1, 0, 6), family().Tables[2], table()}, [3]int{4, 1, 2}},
		{0, 2, 1, [][]int{table(1, 6, 6, 1), table(1, 0, 6), family().Tables[2], table()}, [3]int{3, 1, 3}},
		{1, 2, 1, [][]int{table(1, 0, 6, 1), table(1, 6, 6), family().Tables[2], table()}, [3]int{3, 1, 3}},
		{2, 15, 0, [][]int{table(1, 0, 6, 1), table(1, 0, 6), table(3, 0, 0, 0, 0, 0, 0, 0, 0, 0, 0, 0, 0, 0, 0, 3), table()}, [3]int{3, 2, 2}},
	} {
		want := withTables(c.tables...)
		want.Open[0].Refs, want.Open[2].Refs, want.Open[5].Refs = c.refs[0], c.refs[1], c.refs[2]
		if got, fd, err := Dup(family(), c.proc, c.fd); !same(got, want) || fd != c.want || err != api.OK {
			t.Errorf("%d: %v, %d and %d, want %v", i, got, fd, err, want)
		}
	}
	twin := right()[11]
	twin.Open[4].Refs, twin.Tables[0][15] = 2, 5
	if got, fd, err := Dup(right()[11], 0, 4); !same(got, twin) || fd != 15 || err != api.OK {
		t.Errorf("%v, %d and %d, want %v", got, fd, err, twin)
	}
}

// P18.3: Fork gives a process the same descriptors with the same descriptions, also if these are none or all.
func TestForkCases(t *testing.T) {
	want := family()
	want.Tables[3], want.Open[0].Refs, want.Open[5].Refs = table(1, 0, 6, 1), 5, 3
	if got, err := Fork(family(), 0, 3); !same(got, want) || err != api.OK {
		t.Errorf("%v and %d, want %v", got, err, want)
	}
	want = family()
	want.Tables[3], want.Open[2].Refs = slices.Clone(want.Tables[2]), 2
	if got, err := Fork(family(), 2, 3); !same(got, want) || err != api.OK {
		t.Errorf("%v and %d, want %v", got, err, want)
	}
	want = api.Descriptors{Open: several(16, 2), Tables: [][]int{table(), filled(16, -1), filled(16, -1)}}
	if got, err := Fork(right()[6], 1, 2); !same(got, want) || err != api.OK {
		t.Errorf("%v and %d, want %v", got, err, want)
	}
	if got, err := Fork(right()[6], 0, 2); !same(got, right()[6]) || err != api.OK {
		t.Errorf("%v and %d of a process without descriptions", got, err)
	}
}

// closeCase is a call of Close for descriptors, written down by hand.
type closeCase struct {
	d        api.Descriptors
	proc, fd int
	want     api.Descriptors
	gone     bool
	err      api.Errno
}

func expectCloses(t *testing.T, cases ...closeCase) {
	t.Helper()
	for i, c := range cases {
		if got, gone, err := Close(c.d, c.proc, c.fd); !same(got, c.want) || gone != c.gone || err != c.err {
			t.Errorf("%d: Close of %v: %v, %v and %d, want %v, %v and %d", i, c.d, got, gone, err, c.want, c.gone, c.err)
		}
	}
}

// P18.4: a description goes with its last descriptor, and the zero ones that are at the end then go as well.
func TestCloseCases(t *testing.T) {
	x, y := description(2, 3, 5, 0, 1), description(7, 6, 128, 1000000, 1)
	two := description(2, 3, 5, 0, 2)
	expectCloses(t,
		closeCase{api.Descriptors{Open: []api.Description{x}, Tables: [][]int{table(), table(0, 1)}}, 1, 1, api.Descriptors{Tables: freeTables(2)}, true, api.OK},
		closeCase{api.Descriptors{Open: []api.Description{two}, Tables: [][]int{table(1, 1)}}, 0, 0, api.Descriptors{Open: []api.Description{x}, Tables: [][]int{table(0, 1)}}, false, api.OK},
		closeCase{api.Descriptors{Open: []api.Description{two}, Tables: [][]int{table(1), table(1)}}, 1, 0, api.Descriptors{Open: []api.Description{x}, Tables: [][]int{table(1), table()}}, false, api.OK},
		closeCase{api.Descriptors{Open: []api.Description{x, y}, Tables: [][]int{table(1, 2)}}, 0, 0, api.Descriptors{Open: []api.Description{{}, y}, Tables: [][]int{table(0, 2)}}, true, api.OK},
		closeCase{api.Descriptors{Open: []api.Description{x, y}, Tables: [][]int{table(1, 2)}}, 0, 1, api.Descriptors{Open: []api.Description{x}, Tables: [][]int{table(1)}}, true, api.OK},
		closeCase{api.Descriptors{Open: []api.Description{x, {}, {}, y}, Tables: [][]int{table(1, 4)}}, 0, 1, api.Descriptors{Open: []api.Description{x}, Tables: [][]int{table(1)}}, true, api.OK},
		closeCase{api.Descriptors{Open: []api.Description{{}, x, {}, y}, Tables: [][]int{table(2, 4)}}, 0, 1, api.Descriptors{Open: []api.Description{{}, x}, Tables: [][]int{table(2)}}, true, api.OK},
		closeCase{api.Descriptors{Open: []api.Description{{}, {}, y}, Tables: [][]int{table(3)}}, 0, 0, api.Descriptors{Tables: freeTables(1)}, true, api.OK},
		closeCase{api.Descriptors{Open: []api.Description{x, {}, y, x}, Tables: [][]int{table(1, 3, 4)}}, 0, 1, api.Descriptors{Open: []api.Description{x, {}, {}, x}, Tables: [][]int{table(1, 0, 4)}}, true, api.OK},
		closeCase{api.Descriptors{Open: []api.Description{x}, Tables: [][]int{append(make([]int, 15), 1)}}, 0, 15, api.Descriptors{Tables: freeTables(1)}, true, api.OK},
	)
}

// P18.4, P18.5: the errors of Close and of Lookup, and each of them ahead of those that come behind it.
func TestCloseErrors(t *testing.T) {
	wrong := withOpen(family().Open[:5]...)
	for i, c := range []struct {
		d        api.Descriptors
		proc, fd int
		want     api.Errno
	}{
		{wrong, 0, 0, api.ErrInvalid}, {wrong, -1, 0, api.ErrInvalid}, {wrong, 0, 1, api.ErrInvalid}, {wrong, 9, -1, api.ErrInvalid}, {api.Descriptors{}, 0, 0, api.ErrInvalid},
		{family(), -1, 0, api.ErrRange}, {family(), 4, 0, api.ErrRange}, {family(), 4, -1, api.ErrRange}, {family(), 4, 16, api.ErrRange}, {family(), 8, 1, api.ErrRange}, {family(), math.MaxInt, 0, api.ErrRange}, {family(), math.MinInt, 0, api.ErrRange},
		{family(), 0, 1, api.ErrUnknown}, {family(), 0, 4, api.ErrUnknown}, {family(), 3, 0, api.ErrUnknown}, {family(), 2, 14, api.ErrUnknown}, {family(), 0, -1, api.ErrUnknown}, {family(), 0, 16, api.ErrUnknown}, {whole(), 7, 16, api.ErrUnknown}, {whole(), 7, -1, api.ErrUnknown}, {whole(), 0, math.MaxInt, api.ErrUnknown}, {whole(), 0, math.MinInt, api.ErrUnknown},
	} {
		expectCloses(t, closeCase{c.d, c.proc, c.fd, c.d, false, c.want})
		if n, x, err := Lookup(c.d, c.proc, c.fd); n != 0 || x != (api.Description{}) || err != c.want {
			t.Errorf("%d: Lookup returns %d, %v and %d, want %d", i, n, x, err, c.want)
		}
	}
}

// P18.5: Lookup returns the number of the description, from 0 on, and all of its fields.
func TestLookupCases(t *testing.T) {
	for i, c := range []struct {
		d              api.Descriptors
		proc, fd, want int
	}{
		{family(), 0, 0, 0}, {family(), 0, 2, 5}, {family(), 0, 3, 0}, {family(), 1, 0, 0}, {family(), 1, 2, 5}, {family(), 2, 15, 2},
		{whole(), 0, 0, 0}, {whole(), 0, 15, 15}, {whole(), 1, 0, 16}, {whole(), 7, 15, 127}, {shared(), 5, 9, 0}, {lastOnly(), 2, 2, 127},
	} {
		if n, x, err := Lookup(c.d, c.proc, c.fd); n != c.want || x != c.d.Open[c.want] || err != api.OK {
			t.Errorf("%d: %d, %v and %d, want %d", i, n, x, err, c.want)
		}
	}
}

// P18.5: Update changes the Offset and the Cursor, and nothing else.
func TestUpdateCases(t *testing.T) {
	for _, x := range []api.Description{{}, description(0, 0, 128, 1000000, 0), description(5, 4, 17, 23, 9), description(-1, -2, 1, 2, -3), description(99, 99, 0, 1000000, 99), description(99, 99, 128, 0, 99)} {
		for _, n := range []int{0, 2, 5} {
			want := family()
			want.Open[n].Offset, want.Open[n].Cursor = x.Offset, x.Cursor
			if got, err := Update(family(), n, x); !same(got, want) || err != api.OK {
				t.Errorf("%d becomes %v: %v and %d, want %v", n, x, got, err, want)
			}
		}
	}
}

// P18.5: the errors of Update, and each of them ahead of those that come behind it.
func TestUpdateErrors(t *testing.T) {
	wrong := withOpen(family().Open[:5]...)
	for i, c := range []struct {
		d    api.Descriptors
		n    int
		x    api.Description
		want api.Errno
	}{
		{wrong, 0, api.Description{}, api.ErrInvalid}, {wrong, 1, api.Description{}, api.ErrInvalid}, {wrong, 0, description(0, 1, 129, 0, 1), api.ErrInvalid}, {api.Descriptors{}, -1, api.Description{}, api.ErrInvalid},
		{family(), -1, api.Description{}, api.ErrUnknown}, {family(), 1, api.Description{}, api.ErrUnknown}, {family(), 3, api.Description{}, api.ErrUnknown}, {family(), 4, api.Description{}, api.ErrUnknown}, {family(), 6, api.Description{}, api.ErrUnknown}, {family(), 128, api.Description{}, api.ErrUnknown}, {family(), math.MaxInt, api.Description{}, api.ErrUnknown}, {family(), math.MinInt, api.Description{}, api.ErrUnknown}, {family(), 1, description(0, 1, 129, 0, 1), api.ErrUnknown}, {family(), 6, description(0, 1, 0, -1, 1), api.ErrUnknown}, {right()[0], 0, api.Description{}, api.ErrUnknown},
		{family(), 0, description(0, 1, 129, 0, 1), api.ErrRange}, {family(), 0, description(0, 1, -1, 0, 1), api.ErrRange}, {family(), 2, description(0, 1, 0, 1000001, 1), api.ErrRange}, {family(), 5, description(0, 1, 0, -1, 1), api.ErrRange}, {family(), 5, description(0, 1, math.MaxInt, math.MinInt, 1), api.ErrRange}, {family(), 5, description(0, 1, 5, math.MaxInt, 1), api.ErrRange}, {family(), 5, description(0, 1, math.MinInt, 5, 1), api.ErrRange},
	} {
		if got, err := Update(c.d, c.n, c.x); !same(got, c.d) || err != c.want {
			t.Errorf("%d: %v and %d, want %d", i, got, err, c.want)
		}
	}
}
