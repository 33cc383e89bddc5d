package page

import (
	"math"
	"strings"
	"testing"

	"pagecache/api"
)

const (
	old   = "abcdefghijklmnop" // the bytes of the pages that are tested
	fresh = "ABCDEFGHIJKLMNOP" // what they are filled with
)

// zero has the bytes of a new page.
const zero = "\x00\x00\x00\x00\x00\x00\x00\x00\x00\x00\x00\x00\x00\x00\x00\x00"

func with(valid, dirty int) api.Page { return api.Page{Data: old, Valid: valid, Dirty: dirty} }

// rightPages are pages in all states that are right.
func rightPages() []api.Page {
	return []api.Page{with(0, 0), with(1, 0), with(1, 1), with(2, 0), with(2, 2), with(3, 0), with(3, 1), with(3, 2), with(3, 3)}
}

// badPages are pages that are not right, by what is wrong with them.
func badPages() map[string]api.Page {
	return map[string]api.Page{
		"the zero Page":             {},
		"no bytes":                  {Valid: 3},
		"one sector":                {Data: old[:8], Valid: 1},
		"a byte too few":            {Data: old[:15], Valid: 3, Dirty: 3},
		"a byte too many":           {Data: old + "q"},
		"two pages":                 {Data: old + old, Valid: 3},
		"sixteen runes":             {Data: strings.Repeat("\u00e4", 16), Valid: 3},
		"Valid 4":                   with(4, 0),
		"Valid 7":                   with(7, 3),
		"Valid -1":                  with(-1, 0),
		"Valid -1, all dirty":       with(-1, 3),
		"greatest Valid":            with(math.MaxInt, 1),
		"least Valid":               with(math.MinInt, 0),
		"Valid with a bit on top":   with(math.MinInt|3, 0),
		"Dirty 4":                   with(3, 4),
		"Dirty 7":                   with(3, 7),
		"Dirty -1":                  with(3, -1),
		"greatest Dirty":            with(3, math.MaxInt),
		"least Dirty":               with(3, math.MinInt),
		"both 4":                    with(4, 4),
		"both -1":                   with(-1, -1),
		"dirty first, none valid":   with(0, 1),
		"dirty second, none valid":  with(0, 2),
		"all dirty, none valid":     with(0, 3),
		"dirty second, first valid": with(1, 2),
		"all dirty, first valid":    with(1, 3),
		"dirty first, second valid": with(2, 1),
		"all dirty, second valid":   with(2, 3),
	}
}

// badRanges are no ranges of a page.
func badRanges() [][2]int {
	return [][2]int{
		{-1, 0}, {-1, 1}, {-1, 17}, {-1, 18}, {0, -1}, {1, -1}, {-1, -1}, {16, -1}, {17, -1}, {0, 17}, {1, 16}, {8, 9}, {15, 2}, {16, 1}, {17, 0}, {17, 1}, {18, -2}, {24, -16},
		{math.MaxInt, 0}, {math.MaxInt, 1}, {math.MaxInt, math.MaxInt}, {0, math.MaxInt}, {1, math.MaxInt}, {8, math.MaxInt}, {16, math.MaxInt}, {math.MaxInt, 17},
		{math.MinInt, 0}, {math.MinInt, 1}, {0, math.MinInt}, {16, math.MinInt}, {math.MinInt, math.MinInt}, {math.MinInt, math.MaxInt}, {math.MaxInt, math.MinInt}, {math.MaxInt, -math.MaxInt}, {-math.MaxInt, math.MaxInt},
	}
}

// badSets are no sets of sectors of a page.
func badSets() []int { return []int{-1, -2, 4, 5, 7, 8, math.MaxInt, math.MinInt, math.MinInt | 3} }

// ranges calls f for all ranges of a page.
func ranges(f func(off, n int)) {
	for off := range api.PageBytes + 1 {
		for n := range api.PageBytes - off + 1 {
			f(off, n)
		}
	}
}

// bit is the set of the sector that the byte at is in.
func bit(at int) int {
	if at < 8 {
		return 1
	}
	return 2
}

// missing is what P2.2 promises of Needs, computed byte by byte.
func missing(p api.Page, off, n int, write bool) int {
	need := 0
	for at := off; at < off+n; at++ {
		first := at / 8 * 8
		whole := off <= first && first+8 <= off+n
		if p.Valid&bit(at) == 0 && !(write && whole) {
			need |= bit(at)
		}
	}
	return need
}

func expectPage(t *testing.T, what string, got api.Page, err api.Errno, want api.Page) {
	t.Helper()
	if err != api.OK || got != want {
		t.Errorf("%s: %#v %v, want %#v", what, got, err, want)
	}
}

func expectError(t *testing.T, what string, got api.Page, err, want api.Errno) {
	t.Helper()
	if err != want || got != (api.Page{}) {
		t.Errorf("%s: %#v %v, want %v", what, got, err, want)
	}
}

// P2.1: new pages and holes.
func TestNewAndHole(t *testing.T) {
	if got := New(); got != (api.Page{Data: zero}) {
		t.Errorf("New: %#v", got)
	}
	if got := Hole(); got != (api.Page{Data: zero, Valid: 3}) {
		t.Errorf("Hole: %#v", got)
	}
	if s, err := Read(Hole(), 0, 16); s != zero || err != api.OK {
		t.Errorf("Read of a hole: %q %v", s, err)
	}
	if s, err := Read(New(), 0, 1); s != "" || err != api.ErrBusy {
		t.Errorf("Read of a new page: %q %v", s, err)
	}
}

// P2.1: what is right.
func TestCheck(t *testing.T) {
	if !Check(New()) || !Check(Hole()) {
		t.Error("a page without data is not right")
	}
	for _, p := range rightPages() {
		if !Check(p) {
			t.Errorf("not right: %#v", p)
		}
	}
	for name, p := range badPages() {
		if Check(p) {
			t.Errorf("%s: right", name)
		}
	}
	for valid := -9; valid < 10; valid++ {
		for dirty := -9; dirty < 10; dirty++ {
			want := valid == 3 && dirty >= 0 && dirty <= 3 || (valid == 1 || valid == 2) && (dirty == 0 || dirty == valid) || valid == 0 && dirty == 0
			if got := Check(with(valid, dirty)); got != want {
				t.Errorf("Valid %d, Dirty %d: %v", valid, dirty, got)
			}
		}
	}
}

// P2.2: what has to be filled, at the edges of sectors.
func TestNeeds(t *testing.T) {
	for _, c := range []struct {
		off, n, valid   int
		toRead, toWrite int
	}{
		{0, 0, 0, 0, 0}, {5, 0, 0, 0, 0}, {8, 0, 0, 0, 0}, {15, 0, 0, 0, 0}, {16, 0, 0, 0, 0},
		{0, 1, 0, 1, 1}, {0, 7, 0, 1, 1}, {0, 8, 0, 1, 0}, {1, 7, 0, 1, 1}, {0, 9, 0, 3, 2}, {1, 8, 0, 3, 3}, {7, 1, 0, 1, 1}, {7, 2, 0, 3, 3},
		{8, 8, 0, 2, 0}, {8, 4, 0, 2, 2}, {9, 7, 0, 2, 2}, {7, 9, 0, 3, 1}, {15, 1, 0, 2, 2}, {0, 16, 0, 3, 0}, {0, 15, 0, 3, 2}, {1, 15, 0, 3, 1}, {1, 14, 0, 3, 3},
		{0, 16, 1, 2, 0}, {0, 16, 2, 1, 0}, {0, 16, 3, 0, 0}, {1, 14, 1, 2, 2}, {1, 14, 2, 1, 1}, {1, 14, 3, 0, 0}, {0, 4, 1, 0, 0}, {0, 4, 2, 1, 1}, {9, 1, 1, 2, 2}, {9, 1, 2, 0, 0},
	} {
		p := with(c.valid, c.valid)
		if got, err := Needs(p, c.off, c.n, false); got != c.toRead || err != api.OK {
			t.Errorf("to read %d at %d of %#v: %d %v, want %d", c.n, c.off, p, got, err, c.toRead)
		}
		if got, err := Needs(p, c.off, c.n, true); got != c.toWrite || err != api.OK {
			t.Errorf("to write %d at %d of %#v: %d %v, want %d", c.n, c.off, p, got, err, c.toWrite)
		}
	}
	if got, err := Needs(New(), 8, 8, true); got != 0 || err != api.OK {
		t.Errorf("example 1, 8 bytes at 8: %d %v", got, err)
	}
	if got, err := Needs(New(), 8, 4, true); got != 2 || err != api.OK {
		t.Errorf("example 1, 4 bytes at 8: %d %v", got, err)
	}
}

// P2.2: all pages that are right, and all ranges.
func TestNeedsEverywhere(t *testing.T) {
	for _, p := range rightPages() {
		ranges(func(off, n int) {
			for _, write := range []bool{false, true} {
				if got, err := Needs(p, off, n, write); got != missing(p, off, n, write) || err != api.OK {
					t.Errorf("%d at %d of %#v, write %v: %d %v", n, off, p, write, got, err)
				}
			}
		})
	}
}

// P2.2: the errors of Needs and their order.
func TestNeedsErrors(t *testing.T) {
	for _, write := range []bool{false, true} {
		for _, r := range badRanges() {
			for _, p := range rightPages() {
				if got, err := Needs(p, r[0], r[1], write); got != 0 || err != api.ErrRange {
					t.Errorf("%v of %#v, write %v: %d %v", r, p, write, got, err)
				}
			}
		}
		for name, p := range badPages() {
			for _, r := range append(badRanges(), [2]int{0, 0}, [2]int{0, 16}, [2]int{3, 2}) {
				if got, err := Needs(p, r[0], r[1], write); got != 0 || err != api.ErrInvalid {
					t.Errorf("%s: %v, write %v: %d %v", name, r, write, got, err)
				}
			}
		}
	}
}

// P2.3: all pages that are right, and all ranges.
func TestRead(t *testing.T) {
	for _, p := range rightPages() {
		ranges(func(off, n int) {
			s, err := Read(p, off, n)
			if missing(p, off, n, false) != 0 {
				if s != "" || err != api.ErrBusy {
					t.Errorf("%d at %d of %#v: %q %v, want ErrBusy", n, off, p, s, err)
				}
			} else if s != old[off:off+n] || err != api.OK {
				t.Errorf("%d at %d of %#v: %q %v", n, off, p, s, err)
			}
		})
	}
	if s, err := Read(with(2, 0), 8, 8); s != "ijklmnop" || err != api.OK {
		t.Errorf("the only valid sector: %q %v", s, err)
	}
	if s, err := Read(with(2, 0), 7, 2); s != "" || err != api.ErrBusy {
		t.Errorf("over the edge of the valid sector: %q %v", s, err)
	}
}

// P2.3: the errors of Read and their order.
func TestReadErrors(t *testing.T) {
	for _, r := range badRanges() {
		for _, p := range rightPages() {
			if s, err := Read(p, r[0], r[1]); s != "" || err != api.ErrRange {
				t.Errorf("%v of %#v: %q %v", r, p, s, err)
			}
		}
	}
	for name, p := range badPages() {
		for _, r := range append(badRanges(), [2]int{0, 0}, [2]int{0, 16}, [2]int{3, 2}) {
			if s, err := Read(p, r[0], r[1]); s != "" || err != api.ErrInvalid {
				t.Errorf("%s: %v: %q %v", name, r, s, err)
			}
		}
	}
}

// P2.4: valid sectors keep their bytes, and the others of the set get theirs.
func TestFill(t *testing.T) {
	const first, second = "ABCDEFGHijklmnop", "abcdefghIJKLMNOP"
	for _, c := range []struct {
		valid, dirty, sectors int
		want                  api.Page
	}{
		{0, 0, 0, api.Page{Data: old}}, {0, 0, 1, api.Page{Data: first, Valid: 1}}, {0, 0, 2, api.Page{Data: second, Valid: 2}}, {0, 0, 3, api.Page{Data: fresh, Valid: 3}},
		{1, 0, 0, with(1, 0)}, {1, 0, 1, with(1, 0)}, {1, 1, 2, api.Page{Data: second, Valid: 3, Dirty: 1}}, {1, 1, 3, api.Page{Data: second, Valid: 3, Dirty: 1}}, {1, 0, 3, api.Page{Data: second, Valid: 3}},
		{2, 2, 0, with(2, 2)}, {2, 2, 1, api.Page{Data: first, Valid: 3, Dirty: 2}}, {2, 0, 2, with(2, 0)}, {2, 0, 3, api.Page{Data: first, Valid: 3}},
		{3, 0, 3, with(3, 0)}, {3, 3, 1, with(3, 3)}, {3, 2, 2, with(3, 2)}, {3, 1, 0, with(3, 1)},
	} {
		got, err := Fill(with(c.valid, c.dirty), c.sectors, fresh)
		expectPage(t, "Fill", got, err, c.want)
	}
	got, err := Fill(New(), 2, old)
	expectPage(t, "Fill of a new page", got, err, api.Page{Data: "\x00\x00\x00\x00\x00\x00\x00\x00ijklmnop", Valid: 2})
	got, err = Fill(Hole(), 3, old)
	expectPage(t, "Fill of a hole", got, err, Hole())
}

// P2.4: the errors of Fill and their order.
func TestFillErrors(t *testing.T) {
	short := []string{"", "A", fresh[:8], fresh[:15], fresh + "Q", fresh + fresh, strings.Repeat("\u00e4", 16)}
	for _, p := range rightPages() {
		for sectors := range 4 {
			for _, data := range short {
				got, err := Fill(p, sectors, data)
				expectError(t, "Fill with "+data, got, err, api.ErrRange)
			}
		}
		for _, sectors := range badSets() {
			for _, data := range append(short, fresh) {
				got, err := Fill(p, sectors, data)
				expectError(t, "Fill of a bad set", got, err, api.ErrRange)
			}
		}
	}
	for name, p := range badPages() {
		for _, sectors := range append(badSets(), 0, 1, 3) {
			for _, data := range append(short, fresh) {
				got, err := Fill(p, sectors, data)
				expectError(t, name, got, err, api.ErrInvalid)
			}
		}
	}
}

// P2.5: all pages that are right, and all ranges.
func TestWrite(t *testing.T) {
	for _, p := range rightPages() {
		ranges(func(off, n int) {
			got, err := Write(p, off, fresh[:n])
			if missing(p, off, n, true) != 0 {
				expectError(t, "Write", got, err, api.ErrBusy)
				return
			}
			want, data := p, []byte(old)
			for k := range n {
				data[off+k] = fresh[k]
				want.Valid |= bit(off + k)
				want.Dirty |= bit(off + k)
			}
			want.Data = string(data)
			expectPage(t, "Write", got, err, want)
		})
	}
}

// P2.5: some writes in full.
func TestWriteExamples(t *testing.T) {
	for _, c := range []struct {
		p    api.Page
		off  int
		s    string
		want api.Page
	}{
		{New(), 8, "12345678", api.Page{Data: zero[:8] + "12345678", Valid: 2, Dirty: 2}},
		{New(), 0, old, api.Page{Data: old, Valid: 3, Dirty: 3}},
		{New(), 16, "", New()}, {New(), 3, "", New()}, {with(1, 0), 2, "", with(1, 0)},
		{Hole(), 0, "abc", api.Page{Data: "abc" + zero[3:], Valid: 3, Dirty: 1}},
		{Hole(), 15, "z", api.Page{Data: zero[:15] + "z", Valid: 3, Dirty: 2}},
		{with(3, 0), 7, "HI", api.Page{Data: "abcdefgHIjklmnop", Valid: 3, Dirty: 3}},
		{with(1, 0), 6, "GHIJKLMNOP", api.Page{Data: "abcdefGHIJKLMNOP", Valid: 3, Dirty: 3}},
		{with(2, 2), 0, "ABCDEFGHI", api.Page{Data: "ABCDEFGHIjklmnop", Valid: 3, Dirty: 3}},
		{with(3, 2), 0, "ab", with(3, 3)}, {with(3, 2), 0, "\x00\xff", api.Page{Data: "\x00\xff" + old[2:], Valid: 3, Dirty: 3}},
	} {
		got, err := Write(c.p, c.off, c.s)
		expectPage(t, "Write of "+c.s, got, err, c.want)
	}
}

// P2.5: the errors of Write and their order.
func TestWriteErrors(t *testing.T) {
	for _, c := range []struct {
		off, n int
	}{{-1, 0}, {-1, 1}, {-1, 17}, {0, 17}, {1, 16}, {8, 9}, {15, 2}, {16, 1}, {17, 0}, {17, 1}, {0, 1000}, {math.MaxInt, 0}, {math.MaxInt, 1}, {math.MaxInt - 15, 16}, {math.MinInt, 0}, {math.MinInt, 16}} {
		s := strings.Repeat("x", c.n)
		for _, p := range rightPages() {
			got, err := Write(p, c.off, s)
			expectError(t, "Write out of the page", got, err, api.ErrRange)
		}
		for name, p := range badPages() {
			got, err := Write(p, c.off, s)
			expectError(t, name, got, err, api.ErrInvalid)
		}
	}
	for name, p := range badPages() {
		for _, s := range []string{"", "abc", old} {
			got, err := Write(p, 0, s)
			expectError(t, name, got, err, api.ErrInvalid)
		}
	}
}

// P2.6: Clean and Soil change only what is dirty, and Soil only where it is valid.
func TestCleanAndSoil(t *testing.T) {
	for _, p := range rightPages() {
		for sectors := range 4 {
			clean, soiled := p, p
			for _, one := range []int{1, 2} {
				if sectors&one != 0 {
					clean.Dirty &^= one
				}
				if sectors&one != 0 && p.Valid&one != 0 {
					soiled.Dirty |= one
				}
			}
			got, err := Clean(p, sectors)
			expectPage(t, "Clean", got, err, clean)
			got, err = Soil(p, sectors)
			expectPage(t, "Soil", got, err, soiled)
		}
	}
	got, err := Clean(with(3, 3), 1)
	expectPage(t, "Clean of the first sector", got, err, with(3, 2))
	got, err = Clean(with(3, 2), 1)
	expectPage(t, "Clean of a clean sector", got, err, with(3, 2))
	got, err = Soil(with(2, 0), 3)
	expectPage(t, "Soil with a sector that is not valid", got, err, with(2, 2))
	got, err = Soil(New(), 3)
	expectPage(t, "Soil of a new page", got, err, New())
}

// P2.6: the errors of Clean and Soil and their order.
func TestCleanAndSoilErrors(t *testing.T) {
	for _, change := range []func(api.Page, int) (api.Page, api.Errno){Clean, Soil} {
		for _, sectors := range badSets() {
			for _, p := range rightPages() {
				got, err := change(p, sectors)
				expectError(t, "a bad set", got, err, api.ErrRange)
			}
		}
		for name, p := range badPages() {
			for _, sectors := range append(badSets(), 0, 1, 2, 3) {
				got, err := change(p, sectors)
				expectError(t, name, got, err, api.ErrInvalid)
			}
		}
	}
}

// The consequence for Write: Read of the same range returns what was written.
func TestReadAfterWrite(t *testing.T) {
	for _, p := range rightPages() {
		ranges(func(off, n int) {
			q, err := Write(p, off, fresh[off:off+n])
			if err != api.OK {
				return
			}
			if s, err := Read(q, off, n); s != fresh[off:off+n] || err != api.OK || !Check(q) {
				t.Errorf("%d at %d of %#v: %q %v", n, off, p, s, err)
			}
		})
	}
}

// The consequence for Fill: it changes no byte that can be read.
func TestReadAfterFill(t *testing.T) {
	for _, p := range rightPages() {
		for sectors := range 4 {
			q, err := Fill(p, sectors, fresh)
			if err != api.OK || !Check(q) || q.Valid != p.Valid|sectors || q.Dirty != p.Dirty {
				t.Fatalf("Fill %d of %#v: %#v %v", sectors, p, q, err)
			}
			ranges(func(off, n int) {
				before, err := Read(p, off, n)
				if err != api.OK {
					return
				}
				if after, err := Read(q, off, n); after != before || err != api.OK {
					t.Errorf("Fill %d of %#v: %q was %q, %v", sectors, p, after, before, err)
				}
			})
		}
	}
}

// steps are a write and a fill of the sector k.
func steps(k int) []func(api.Page) (api.Page, api.Errno) {
	s := []string{"12345678", "stuvwxyz"}[k]
	return []func(api.Page) (api.Page, api.Errno){
		func(p api.Page) (api.Page, api.Errno) { return Write(p, 8*k, s) },
		func(p api.Page) (api.Page, api.Errno) { return Write(p, 8*k, "") },
		func(p api.Page) (api.Page, api.Errno) { return Write(p, 8*k+2, s[:3]) },
		func(p api.Page) (api.Page, api.Errno) { return Fill(p, 1<<k, fresh) },
	}
}

// attempt carries out a step, and leaves the page as it is if there is an error.
func attempt(p api.Page, step func(api.Page) (api.Page, api.Errno)) (api.Page, api.Errno) {
	q, err := step(p)
	if err != api.OK {
		return p, err
	}
	return q, err
}

// The consequence for both: writes and fills of different sectors can be exchanged, with their errors.
func TestExchange(t *testing.T) {
	for _, p := range rightPages() {
		for i, one := range steps(0) {
			for j, other := range steps(1) {
				a, first := attempt(p, one)
				a, second := attempt(a, other)
				b, early := attempt(p, other)
				b, late := attempt(b, one)
				if a != b || first != late || second != early {
					t.Errorf("steps %d and %d on %#v: %#v %v %v, exchanged %#v %v %v", i, j, p, a, first, second, b, late, early)
				}
			}
		}
	}
}
