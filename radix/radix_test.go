package radix

import (
	"math"
	"reflect"
	"slices"
	"testing"

	"pagecache/api"
)

// dirty, writing and ahead are the marks, by shorter names.
const (
	dirty   = api.MarkDirty
	writing = api.MarkWriteback
	ahead   = api.MarkAhead
)

func leaf(v, marks int) api.Node { return api.Node{Value: v, Marks: marks} }

func inner(marks int, kids ...api.Node) api.Node { return api.Node{Kids: kids, Marks: marks} }

// badTrees are trees that are not valid, by what is wrong with them.
func badTrees() map[string]api.Tree {
	none := api.Node{}
	frame := leaf(5, 0)
	loop := make([]api.Node, 4)
	loop[1] = api.Node{Kids: loop}
	return map[string]api.Tree{
		"height below 0":                  {Height: -1},
		"height below 0 with an entry":    {Height: -1, Root: frame},
		"least height":                    {Height: math.MinInt},
		"height above 4":                  {Height: 5, Root: inner(0, none, inner(0, none, inner(0, none, inner(0, none, inner(0, none, frame, none, none), none, none), none, none), none, none), none, none)},
		"greatest height":                 {Height: math.MaxInt, Root: frame},
		"empty tree with height":          {Height: 1},
		"empty tree of height 4":          {Height: 4},
		"only the first leaf":             {Height: 1, Root: inner(0, frame, none, none, none)},
		"only the first subtree":          {Height: 2, Root: inner(0, inner(0, none, frame, none, none), none, none, none)},
		"leaf as the root of height 1":    {Height: 1, Root: frame},
		"leaf above the leaves":           {Height: 2, Root: inner(0, none, frame, none, none)},
		"leaf with kids":                  {Root: api.Node{Value: 5, Kids: make([]api.Node, 4)}},
		"leaf with one kid":               {Root: api.Node{Value: 5, Kids: make([]api.Node, 1)}},
		"leaf with kids and without more": {Root: api.Node{Kids: make([]api.Node, 4)}},
		"leaf of Value 0 with a mark":     {Root: leaf(0, 1)},
		"frame with Marks 8":              {Root: leaf(5, 8)},
		"frame with Marks -1":             {Root: leaf(5, -1)},
		"shadow with a mark":              {Root: leaf(-5, 1)},
		"shadow with Marks -8":            {Root: leaf(-5, -8)},
		"bad leaf below":                  {Height: 1, Root: inner(8, none, leaf(5, 8), none, none)},
		"marked shadow below":             {Height: 1, Root: inner(2, none, leaf(-5, 2), none, none)},
		"three kids":                      {Height: 1, Root: inner(0, none, frame, none)},
		"five kids":                       {Height: 1, Root: inner(0, none, frame, none, none, none)},
		"empty kids only":                 {Height: 1, Root: inner(0, none, none, none, none)},
		"empty kids only, below":          {Height: 2, Root: inner(0, inner(0, none, none, none, none), inner(0, frame, none, none, none), none, none)},
		"inner node with a Value":         {Height: 1, Root: api.Node{Value: 1, Kids: []api.Node{none, frame, none, none}}},
		"inner node with a shadow":        {Height: 1, Root: api.Node{Value: -1, Kids: []api.Node{none, frame, none, none}}},
		"a mark too many":                 {Height: 1, Root: inner(2, none, frame, none, none)},
		"a mark too few":                  {Height: 1, Root: inner(1, leaf(1, 1), leaf(1, 2), none, none)},
		"a sum in the place of an or":     {Height: 1, Root: inner(2, leaf(1, 1), leaf(1, 1), none, none)},
		"a mark too few, below":           {Height: 2, Root: inner(0, none, inner(0, leaf(1, 1), none, none, none), none, none)},
		"a node below itself":             {Height: 4, Root: api.Node{Kids: loop}},
		"a node below itself without end": {Height: -1, Root: api.Node{Kids: loop}},
	}
}

func build(t *testing.T, l ...api.Entry) api.Tree {
	t.Helper()
	x, err := Build(l)
	if err != api.OK {
		t.Fatalf("Build %v: %v", l, err)
	}
	return x
}

func isZero(x api.Tree) bool { return reflect.DeepEqual(x, api.Tree{}) }

// mixed has frames and shadows on all heights, and each mark.
func mixed(t *testing.T) api.Tree {
	return build(t, api.Entry{Index: 1, Value: 1}, api.Entry{Index: 17, Value: 2, Marks: dirty}, api.Entry{Index: 18, Value: -2},
		api.Entry{Index: 70, Value: 3, Marks: dirty | ahead}, api.Entry{Index: 71, Value: 4, Marks: writing}, api.Entry{Index: 255, Value: -9})
}

// P1.1: what is valid.
func TestValid(t *testing.T) {
	none := api.Node{}
	for name, x := range map[string]api.Tree{
		"empty":                {},
		"empty list of kids":   {Root: api.Node{Kids: []api.Node{}}},
		"frame":                {Root: leaf(5, 0)},
		"frame with all marks": {Root: leaf(5, 7)},
		"greatest values":      {Height: 1, Root: inner(0, leaf(math.MinInt, 0), leaf(math.MaxInt, 0), none, none)},
		"shadow":               {Root: leaf(-3, 0)},
		"second leaf only":     {Height: 1, Root: inner(0, none, leaf(5, 0), none, none)},
		"last leaf only":       {Height: 1, Root: inner(0, none, none, none, leaf(5, 0))},
		"or of marks":          {Height: 1, Root: inner(3, leaf(1, 3), leaf(1, 2), leaf(-1, 0), none)},
		"first subtree too":    {Height: 2, Root: inner(1, inner(1, leaf(1, 1), none, none, none), none, none, inner(0, none, leaf(-1, 0), none, none))},
		"greatest height":      {Height: 4, Root: inner(4, none, none, none, inner(4, none, none, none, inner(4, none, none, none, inner(4, none, none, none, leaf(9, 4)))))},
	} {
		if !Valid(x) {
			t.Errorf("%s: not valid", name)
		}
	}
	for name, x := range badTrees() {
		if Valid(x) {
			t.Errorf("%s: valid", name)
		}
	}
}

// P1.1: Get.
func TestGet(t *testing.T) {
	x := mixed(t)
	for i, want := range map[int]int{1: 1, 17: 2, 18: -2, 70: 3, 71: 4, 255: -9, 0: 0, 2: 0, 69: 0, 254: 0, -1: 0, 256: 0, 257: 0, math.MinInt: 0, math.MaxInt: 0} {
		if got := Get(x, i); got != want {
			t.Errorf("Get %d: %d, want %d", i, got, want)
		}
	}
	low := build(t, api.Entry{Index: 1, Value: 7})
	for _, i := range []int{0, 5, 17, 65, 255} {
		if got := Get(low, i); got != 0 {
			t.Errorf("Get %d of a low tree: %d", i, got)
		}
	}
	if Get(low, 1) != 7 || Get(build(t, api.Entry{Value: -4}), 0) != -4 || Get(api.Tree{}, 0) != 0 {
		t.Error("Get of a low tree")
	}
	for name, bad := range badTrees() {
		for _, i := range []int{-1, 0, 1, 5, 255, 256} {
			if got := Get(bad, i); got != 0 {
				t.Errorf("%s: Get %d: %d", name, i, got)
			}
		}
	}
}

// The chapter's examples, and P1.2: where an entry stands, and heights.
func TestSetPlaces(t *testing.T) {
	x, err := Set(api.Tree{}, 5, 9)
	want := api.Tree{Height: 2, Root: inner(0, api.Node{}, inner(0, api.Node{}, leaf(9, 0), api.Node{}, api.Node{}), api.Node{}, api.Node{})}
	if err != api.OK || !reflect.DeepEqual(x, want) {
		t.Fatalf("Set 5: %+v %v", x, err)
	}
	if x, err = Set(x, 5, 0); err != api.OK || !isZero(x) {
		t.Errorf("removed: %+v %v", x, err)
	}
	for i, want := range map[int]int{0: 0, 1: 1, 3: 1, 4: 2, 15: 2, 16: 3, 63: 3, 64: 4, 255: 4} {
		for _, v := range []int{6, -6} {
			x, err := Set(api.Tree{}, i, v)
			if err != api.OK || x.Height != want || !Valid(x) || Get(x, i) != v {
				t.Errorf("Set %d to %d: %+v %v", i, v, x, err)
			}
			y, err := Set(x, 0, 1)
			if err != api.OK || i > 0 && (y.Height != want || Get(y, i) != v) || Get(y, 0) != 1 {
				t.Errorf("Set 0 behind %d: %+v %v", i, y, err)
			}
			if z, err := Set(y, i, 0); err != api.OK || z.Height != 0 {
				t.Errorf("removed %d: %+v %v", i, z, err)
			}
		}
	}
}

// P1.2: Set takes the marks of an entry away, keeps those of the others, and removes.
func TestSetMarks(t *testing.T) {
	x := mixed(t)
	y, err := Set(x, 70, 8)
	if err != api.OK || Get(y, 70) != 8 || Marked(y, 70, dirty) || Marked(y, 70, ahead) || y.Root.Marks != dirty|writing {
		t.Errorf("Set 70: %+v %v", y, err)
	}
	if !Marked(y, 17, dirty) || !Marked(y, 71, writing) || Get(y, 255) != -9 {
		t.Errorf("the others: %+v", y)
	}
	if y, err = Set(x, 17, -1); err != api.OK || Get(y, 17) != -1 || Marked(y, 17, dirty) || y.Root.Kids[0].Marks != 0 {
		t.Errorf("Set 17: %+v %v", y, err)
	}
	if y, err = Set(x, 255, 0); err != api.OK || Get(y, 255) != 0 || !isEmpty(y.Root.Kids[3]) || y.Height != 4 {
		t.Errorf("removed: %+v %v", y, err)
	}
	for _, i := range []int{0, 16, 72, 254} {
		if y, err = Set(x, i, 0); err != api.OK || !reflect.DeepEqual(x, y) {
			t.Errorf("removed %d, which there is not: %+v %v", i, y, err)
		}
	}
	low := build(t, api.Entry{Index: 1, Value: 3, Marks: ahead})
	if y, err = Set(low, 200, 0); err != api.OK || !reflect.DeepEqual(low, y) {
		t.Errorf("removed beyond the height: %+v %v", y, err)
	}
}

// P1.2: the errors of Set and their order; with an error the tree is zero.
func TestSetErrors(t *testing.T) {
	for name, bad := range badTrees() {
		for _, i := range []int{-1, 0, 5, 256} {
			if x, err := Set(bad, i, 1); err != api.ErrInvalid || !isZero(x) {
				t.Errorf("%s: Set %d: %+v %v", name, i, x, err)
			}
		}
	}
	for _, i := range []int{math.MinInt, -1, 256, math.MaxInt} {
		for _, v := range []int{0, 1, -1} {
			if x, err := Set(mixed(t), i, v); err != api.ErrRange || !isZero(x) {
				t.Errorf("Set %d to %d: %+v %v", i, v, x, err)
			}
		}
	}
}

// P1.2: Mark and Unmark change one mark of one entry, and the nodes above it.
func TestMark(t *testing.T) {
	x := mixed(t)
	y, err := Mark(x, 1, writing)
	if err != api.OK || !Valid(y) || !Marked(y, 1, writing) || Marked(y, 1, dirty) || Get(y, 1) != 1 || y.Root.Kids[0].Marks != dirty|writing {
		t.Errorf("Mark 1: %+v %v", y, err)
	}
	if y, err = Mark(y, 1, ahead); err != api.OK || !Marked(y, 1, writing) || !Marked(y, 1, ahead) {
		t.Errorf("Mark 1 again: %+v %v", y, err)
	}
	if y, err = Mark(x, 70, dirty); err != api.OK || !reflect.DeepEqual(x, y) {
		t.Errorf("a mark that was there: %+v %v", y, err)
	}
	y, err = Unmark(x, 70, dirty)
	if err != api.OK || !Valid(y) || Marked(y, 70, dirty) || !Marked(y, 70, ahead) || Get(y, 70) != 3 || y.Root.Kids[1].Marks != writing|ahead || y.Root.Marks != 7 {
		t.Errorf("Unmark 70: %+v %v", y, err)
	}
	if y, err = Unmark(x, 1, ahead); err != api.OK || !reflect.DeepEqual(x, y) {
		t.Errorf("a mark that was not there: %+v %v", y, err)
	}
}

// P1.2: the errors of Mark and Unmark and their order.
func TestMarkErrors(t *testing.T) {
	x := mixed(t)
	bad := api.Tree{Height: 1}
	for _, c := range []struct {
		t    api.Tree
		i, m int
		want api.Errno
	}{
		{bad, 300, 3, api.ErrInvalid}, {bad, 0, dirty, api.ErrInvalid},
		{x, 256, 3, api.ErrRange}, {x, -1, 0, api.ErrRange}, {x, math.MaxInt, dirty, api.ErrRange}, {x, math.MinInt, dirty, api.ErrRange},
		{x, 1, 0, api.ErrInvalid}, {x, 1, 3, api.ErrInvalid}, {x, 1, 5, api.ErrInvalid}, {x, 1, 6, api.ErrInvalid}, {x, 1, 7, api.ErrInvalid},
		{x, 1, 8, api.ErrInvalid}, {x, 1, -1, api.ErrInvalid}, {x, 1, math.MinInt, api.ErrInvalid}, {x, 2, 3, api.ErrInvalid}, {x, 18, 8, api.ErrInvalid},
		{x, 2, dirty, api.ErrUnknown}, {x, 18, dirty, api.ErrUnknown}, {x, 255, ahead, api.ErrUnknown}, {x, 254, writing, api.ErrUnknown},
		{api.Tree{}, 0, dirty, api.ErrUnknown}, {api.Tree{}, 255, dirty, api.ErrUnknown},
	} {
		if y, err := Mark(c.t, c.i, c.m); err != c.want || !isZero(y) {
			t.Errorf("Mark %d %d: %+v %v, want %v", c.i, c.m, y, err, c.want)
		}
		if y, err := Unmark(c.t, c.i, c.m); err != c.want || !isZero(y) {
			t.Errorf("Unmark %d %d: %+v %v, want %v", c.i, c.m, y, err, c.want)
		}
	}
	for name, bad := range badTrees() {
		if _, err := Mark(bad, 1, dirty); err != api.ErrInvalid {
			t.Errorf("%s: Mark: %v", name, err)
		}
		if _, err := Unmark(bad, 1, dirty); err != api.ErrInvalid {
			t.Errorf("%s: Unmark: %v", name, err)
		}
	}
}

// P1.3: Marked.
func TestMarked(t *testing.T) {
	x := mixed(t)
	for _, c := range []struct {
		i, m int
		want bool
	}{
		{17, dirty, true}, {17, writing, false}, {70, dirty, true}, {70, ahead, true}, {70, writing, false}, {71, writing, true},
		{70, dirty | ahead, false}, {17, 3, false}, {17, 7, false}, {17, 0, false}, {17, -1, false}, {17, 8, false}, {71, 6, false},
		{18, dirty, false}, {1, dirty, false}, {16, dirty, false}, {-1, dirty, false}, {256, dirty, false}, {math.MaxInt, dirty, false}, {math.MinInt, dirty, false},
	} {
		if got := Marked(x, c.i, c.m); got != c.want {
			t.Errorf("Marked %d %d: %v", c.i, c.m, got)
		}
	}
	if bad := (api.Tree{Height: 1, Root: inner(dirty, leaf(1, dirty), api.Node{}, api.Node{}, api.Node{})}); Marked(bad, 0, dirty) {
		t.Error("Marked in a tree that is not valid")
	}
}

// P1.3: Next.
func TestNext(t *testing.T) {
	x := mixed(t)
	for _, c := range []struct {
		from, m, want int
		ok            bool
	}{
		{0, 0, 1, true}, {1, 0, 1, true}, {2, 0, 17, true}, {18, 0, 70, true}, {71, 0, 71, true}, {72, 0, 0, false},
		{-1, 0, 1, true}, {math.MinInt, 0, 1, true}, {255, 0, 0, false}, {256, 0, 0, false}, {math.MaxInt, 0, 0, false},
		{0, dirty, 17, true}, {17, dirty, 17, true}, {18, dirty, 70, true}, {71, dirty, 0, false}, {math.MinInt, dirty, 17, true}, {math.MaxInt, dirty, 0, false},
		{0, writing, 71, true}, {0, ahead, 70, true}, {71, ahead, 0, false},
		{0, dirty | ahead, 0, false}, {0, 3, 0, false}, {0, 7, 0, false}, {0, 8, 0, false}, {0, -1, 0, false},
	} {
		if got, ok := Next(x, c.from, c.m); got != c.want || ok != c.ok {
			t.Errorf("Next %d %d: %d %v", c.from, c.m, got, ok)
		}
	}
	shadows := build(t, api.Entry{Value: -1}, api.Entry{Index: 77, Value: -1})
	if i, ok := Next(shadows, 0, 0); i != 0 || ok {
		t.Errorf("Next of shadows: %d %v", i, ok)
	}
	if i, ok := Next(build(t, api.Entry{Index: 255, Value: 1}), 255, 0); i != 255 || !ok {
		t.Errorf("Next of the last: %d %v", i, ok)
	}
	if i, ok := Next(build(t, api.Entry{Value: 1, Marks: ahead}), 0, ahead); i != 0 || !ok {
		t.Errorf("Next of a leaf: %d %v", i, ok)
	}
	if i, ok := Next(api.Tree{}, 0, 0); i != 0 || ok {
		t.Errorf("Next of nothing: %d %v", i, ok)
	}
}

// The consequence for Next: it passes over nodes without the mark, whatever is below them.
func TestNextTrustsMarks(t *testing.T) {
	hidden := inner(0, leaf(1, dirty), api.Node{}, api.Node{}, api.Node{})
	shown := inner(dirty, api.Node{}, leaf(1, dirty), api.Node{}, api.Node{})
	root := inner(dirty, hidden, hidden, shown, hidden)
	if i, ok := firstFrame(root, 16, 0, dirty); i != 9 || !ok {
		t.Errorf("firstFrame: %d %v", i, ok)
	}
	if i, ok := firstFrame(root, 16, 10, dirty); i != 0 || ok {
		t.Errorf("firstFrame behind it: %d %v", i, ok)
	}
	if n := countFrames(root, dirty); n != 1 {
		t.Errorf("countFrames: %d", n)
	}
}

// P1.3: Count.
func TestCount(t *testing.T) {
	x := mixed(t)
	for m, want := range map[int]int{0: 4, dirty: 2, writing: 1, ahead: 1, 3: 0, 5: 0, 6: 0, 7: 0, 8: 0, -1: 0, math.MinInt: 0, math.MaxInt: 0} {
		if got := Count(x, m); got != want {
			t.Errorf("Count %d: %d, want %d", m, got, want)
		}
	}
	if Count(api.Tree{}, 0) != 0 || Count(build(t, api.Entry{Value: -1}), 0) != 0 || Count(build(t, api.Entry{Value: 1}), 0) != 1 {
		t.Error("Count of low trees")
	}
}

// The functions without an error have nothing for a tree that is not valid.
func TestNotValid(t *testing.T) {
	for name, bad := range badTrees() {
		for _, m := range []int{0, dirty, writing, ahead, 3} {
			if i, ok := Next(bad, 0, m); i != 0 || ok {
				t.Errorf("%s: Next %d: %d %v", name, m, i, ok)
			}
			if n := Count(bad, m); n != 0 {
				t.Errorf("%s: Count %d: %d", name, m, n)
			}
			for _, i := range []int{0, 1, 5, 300} {
				if Marked(bad, i, m) {
					t.Errorf("%s: Marked %d %d", name, i, m)
				}
			}
		}
		if l := Entries(bad); len(l) > 0 {
			t.Errorf("%s: Entries: %v", name, l)
		}
	}
}

// P1.4: Entries and Build are inverse to each other.
func TestEntriesAndBuild(t *testing.T) {
	l := []api.Entry{{Index: 255, Value: 7, Marks: 7}, {Index: 16, Value: 4}, {Index: 254, Value: math.MinInt}, {Index: 64, Value: math.MaxInt, Marks: ahead}, {Index: 3, Value: 2, Marks: writing}, {Index: 0, Value: -1}}
	x := build(t, l...)
	want := []api.Entry{l[5], l[4], l[1], l[3], l[2], l[0]}
	if got := Entries(x); !slices.Equal(got, want) || x.Height != 4 || !Valid(x) || x.Root.Marks != 7 {
		t.Errorf("Entries: %v of %+v", got, x)
	}
	if y := build(t, want...); !reflect.DeepEqual(x, y) {
		t.Errorf("the order matters: %+v %+v", x, y)
	}
	if l := Entries(api.Tree{}); len(l) > 0 {
		t.Errorf("Entries of nothing: %v", l)
	}
	if x, err := Build([]api.Entry{}); err != api.OK || !isZero(x) {
		t.Errorf("Build of nothing: %+v %v", x, err)
	}
	if l := Entries(build(t, api.Entry{Value: 4, Marks: 2})); !slices.Equal(l, []api.Entry{{Value: 4, Marks: 2}}) {
		t.Errorf("Entries of a leaf: %v", l)
	}
	if x, err := Set(api.Tree{}, 5, 9); err != api.OK || !reflect.DeepEqual(x, build(t, api.Entry{Index: 5, Value: 9})) {
		t.Errorf("Set and Build differ: %+v %v", x, err)
	}
	full := []api.Entry{}
	for i := range api.MaxIndex + 1 {
		full = append(full, api.Entry{Index: i, Value: i + 1, Marks: i % 8})
	}
	if x := build(t, full...); !Valid(x) || !slices.Equal(Entries(x), full) || Count(x, 0) != 256 || Count(x, ahead) != 128 {
		t.Error("a full tree")
	}
}

// P1.4: the errors of Build and their order.
func TestBuildErrors(t *testing.T) {
	good := api.Entry{Index: 1, Value: 1}
	for i, c := range []struct {
		l    []api.Entry
		want api.Errno
	}{
		{[]api.Entry{{Index: 256, Value: 1}}, api.ErrRange}, {[]api.Entry{{Index: -1, Value: 1}}, api.ErrRange},
		{[]api.Entry{{Index: math.MaxInt, Value: 1}}, api.ErrRange}, {[]api.Entry{{Index: math.MinInt, Value: 1}}, api.ErrRange},
		{[]api.Entry{{Index: 256, Value: 0}}, api.ErrRange}, {[]api.Entry{{Index: -1, Value: -1, Marks: 9}}, api.ErrRange},
		{[]api.Entry{{Index: 1}}, api.ErrInvalid}, {[]api.Entry{{Index: 1, Marks: 1}}, api.ErrInvalid},
		{[]api.Entry{{Index: 1, Value: 1, Marks: 8}}, api.ErrInvalid}, {[]api.Entry{{Index: 1, Value: 1, Marks: -1}}, api.ErrInvalid},
		{[]api.Entry{{Index: 1, Value: -1, Marks: 1}}, api.ErrInvalid}, {[]api.Entry{{Index: 1, Value: -1, Marks: -1}}, api.ErrInvalid},
		{[]api.Entry{{Index: 1}, {Index: -1, Value: 1}}, api.ErrInvalid}, {[]api.Entry{{Index: -1, Value: 1}, {Index: 1}}, api.ErrRange},
		{[]api.Entry{good, good, {Index: 256, Value: 1}}, api.ErrRange}, {[]api.Entry{good, good, {Index: 2}}, api.ErrInvalid},
		{[]api.Entry{good, good}, api.ErrExists}, {[]api.Entry{good, {Index: 2, Value: 3}, {Index: 1, Value: -1}}, api.ErrExists},
		{[]api.Entry{{Index: 255, Value: -1}, {Index: 255, Value: -1}}, api.ErrExists}, {[]api.Entry{{Value: 1}, {Value: 2}}, api.ErrExists},
	} {
		if x, err := Build(c.l); err != c.want || !isZero(x) {
			t.Errorf("%d: %+v %v, want %v", i, x, err, c.want)
		}
	}
}

// model is a tree as a map from indices to entries.
type model map[int]api.Entry

func (m model) entries() []api.Entry {
	l := []api.Entry{}
	for i := range api.MaxIndex + 1 {
		if x, ok := m[i]; ok {
			l = append(l, x)
		}
	}
	return l
}

func (m model) next(from, mark int) (int, bool) {
	for _, x := range m.entries() {
		if x.Index >= from && x.Value > 0 && x.Marks&mark == mark {
			return x.Index, true
		}
	}
	return 0, false
}

// compare checks all that can be asked of a tree.
func (m model) compare(t *testing.T, x api.Tree) {
	t.Helper()
	l := m.entries()
	if !Valid(x) || !slices.Equal(Entries(x), l) {
		t.Fatalf("entries %v, want %v", Entries(x), l)
	}
	if y := build(t, l...); !reflect.DeepEqual(x, y) {
		t.Fatalf("%+v is not what Build makes of its entries: %+v", x, y)
	}
	for _, mark := range []int{0, dirty, writing, ahead} {
		n := 0
		for _, e := range l {
			if e.Value > 0 && e.Marks&mark == mark {
				n++
			}
			if mark > 0 && Marked(x, e.Index, mark) != (e.Marks&mark > 0) {
				t.Fatalf("Marked %d %d", e.Index, mark)
			}
		}
		if got := Count(x, mark); got != n {
			t.Fatalf("Count %d: %d, want %d", mark, got, n)
		}
		for from := -1; from <= api.MaxIndex+1; from += 3 {
			i, ok := Next(x, from, mark)
			if j, want := m.next(from, mark); i != j || ok != want {
				t.Fatalf("Next %d %d: %d %v, want %d %v", from, mark, i, ok, j, want)
			}
		}
	}
}

// change changes an entry of a tree and of its model: how selects what is done.
func (m model) change(x api.Tree, i, how int) (api.Tree, api.Errno) {
	old := m[i]
	mark := 1 << (how % 3)
	switch how / 3 {
	case 0:
		delete(m, i)
		return Set(x, i, 0)
	case 1:
		m[i] = api.Entry{Index: i, Value: -1 - how}
		return Set(x, i, -1-how)
	case 2:
		m[i] = api.Entry{Index: i, Value: 1 + how}
		return Set(x, i, 1+how)
	}
	if old.Value <= 0 {
		return x, api.OK
	}
	if how/3 == 3 {
		m[i] = api.Entry{Index: i, Value: old.Value, Marks: old.Marks &^ mark}
		return Unmark(x, i, mark)
	}
	m[i] = api.Entry{Index: i, Value: old.Value, Marks: old.Marks | mark}
	return Mark(x, i, mark)
}

// All promises and R2: long series of changes, with trees that grow and shrink.
func TestModel(t *testing.T) {
	seed := uint32(1)
	draw := func(n int) int {
		seed = seed*1664525 + 1013904223
		return int(seed>>8) % n
	}
	for _, top := range []int{1, 4, 16, 64, 256} {
		x, m := api.Tree{}, model{}
		for step := range 200 {
			before, kept := Entries(x), clone(x.Root)
			y, err := m.change(x, draw(top), draw(15))
			if err != api.OK {
				t.Fatalf("step %d: %v", step, err)
			}
			if !slices.Equal(Entries(x), before) || !reflect.DeepEqual(x.Root, kept) {
				t.Fatalf("step %d changes its argument", step)
			}
			m.compare(t, y)
			x = y
		}
	}
}

// kidLists calls f for each list of kids of a subtree.
func kidLists(n api.Node, f func([]api.Node)) {
	if len(n.Kids) > 0 {
		f(n.Kids)
	}
	for _, below := range n.Kids {
		kidLists(below, f)
	}
}

// R2: results share no memory with arguments, nor among each other.
func TestSharing(t *testing.T) {
	shared := []api.Node{{}, leaf(1, 0), {}, {}}
	twice := api.Tree{Height: 2, Root: inner(0, inner(0, shared...), inner(0, shared...), api.Node{}, api.Node{})}
	for name, x := range map[string]api.Tree{"built": mixed(t), "with parts that are shared": twice} {
		seen := map[*api.Node]bool{}
		kidLists(x.Root, func(l []api.Node) { seen[&l[0]] = true })
		for _, call := range []func() (api.Tree, api.Errno){
			func() (api.Tree, api.Errno) { return Set(x, 1, 4) },
			func() (api.Tree, api.Errno) { return Set(x, 0, 0) },
			func() (api.Tree, api.Errno) { return Set(x, 255, 5) },
			func() (api.Tree, api.Errno) { return Mark(x, 1, ahead) },
			func() (api.Tree, api.Errno) { return Unmark(x, 1, ahead) },
			func() (api.Tree, api.Errno) { return Build(Entries(x)) },
		} {
			y, err := call()
			if err != api.OK {
				t.Fatalf("%s: %v", name, err)
			}
			kidLists(y.Root, func(l []api.Node) {
				if seen[&l[0]] || len(l) != cap(l) {
					t.Errorf("%s: shared kids", name)
				}
				seen[&l[0]] = true
			})
		}
	}
}

// R2: a leaf with an empty list of kids keeps it out of the results.
func TestSharingEmptyKids(t *testing.T) {
	x := api.Tree{Root: api.Node{Value: 3, Kids: make([]api.Node, 0, 4)}}
	y, err := Mark(x, 0, dirty)
	if err != api.OK || !reflect.DeepEqual(y, api.Tree{Root: leaf(3, dirty)}) {
		t.Errorf("Mark: %+v %v", y, err)
	}
	z, err := Set(x, 1, 4)
	if err != api.OK || !reflect.DeepEqual(z, build(t, api.Entry{Value: 3}, api.Entry{Index: 1, Value: 4})) {
		t.Errorf("Set: %+v %v", z, err)
	}
}
