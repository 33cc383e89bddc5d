package descriptor

import (
	"math"
	"slices"

	"pagecache/api"
)

// The limits, in numbers as the document says them: how many processes there are, how many descriptors a process has, and the greatest file, offset and cursor.
const (
	mostProcs  = 8
	mostOpen   = 16
	lastFile   = 7
	lastOffset = 128
	lastCursor = 1000000
)

// farNumbers are numbers that are out of every range. Some of them are in one when they are cut off, or when something is added to them.
var farNumbers = []int{-1, -2, -8, -16, -17, -128, lastCursor + 1, lastCursor + 2, 1 << 31, 1 << 32, 1<<32 + 3, -1 << 32, -1<<32 + 3, math.MaxInt, math.MaxInt - 1, math.MaxInt - 15, math.MinInt, math.MinInt + 1, math.MinInt + 15}

// goodFlags are the flags that a description can have, and badFlags are others.
var (
	goodFlags = []int{1, 2, 3, 5, 6, 7}
	badFlags  = append([]int{0, 4, 8, 9, 10, 11, 12, 15, 16, 17, 255, 257}, farNumbers...)
)

// opened is what is open: a description, but for how many have it.
type opened struct {
	file, flags, offset, cursor int
}

// model is what processes have open. Those that share something point to it; the places tell which number it has.
type model struct {
	procs  [][mostOpen]*opened
	places []*opened
}

// read makes a model of descriptors, and reports whether they are right: whether they are the ones that the model shows.
func read(d api.Descriptors) (model, bool) {
	var m model
	if len(d.Tables) < 1 || len(d.Tables) > 8 || len(d.Open) > 128 {
		return model{}, false
	}
	for _, x := range d.Open {
		var o *opened
		if (x != api.Description{}) {
			o = &opened{x.File, x.Flags, x.Offset, x.Cursor}
			if !o.isRight() {
				return model{}, false
			}
		}
		m.places = append(m.places, o)
	}
	for _, table := range d.Tables {
		if len(table) != 16 {
			return model{}, false
		}
		var own [mostOpen]*opened
		for fd, entry := range table {
			if entry < 0 || entry > len(m.places) || entry > 0 && m.places[entry-1] == nil {
				return model{}, false
			}
			if entry > 0 {
				own[fd] = m.places[entry-1]
			}
		}
		m.procs = append(m.procs, own)
	}
	return m, same(m.show(), d)
}

func (o *opened) isRight() bool {
	return 0 <= o.file && o.file <= lastFile && slices.Contains(goodFlags, o.flags) && 0 <= o.offset && o.offset <= lastOffset && 0 <= o.cursor && o.cursor <= lastCursor
}

// users returns how many descriptors have something open.
func (m model) users(o *opened) int {
	n := 0
	for _, own := range m.procs {
		for _, other := range own {
			if o != nil && o == other {
				n++
			}
		}
	}
	return n
}

// show returns the descriptors that the model has.
func (m model) show() api.Descriptors {
	var d api.Descriptors
	numbers := map[*opened]int{}
	for n, o := range m.places {
		if users := m.users(o); users > 0 {
			d.Open = append(d.Open, make([]api.Description, n-len(d.Open))...)
			d.Open = append(d.Open, api.Description{File: o.file, Flags: o.flags, Offset: o.offset, Cursor: o.cursor, Refs: users})
			numbers[o] = n + 1
		}
	}
	for _, own := range m.procs {
		table := make([]int, mostOpen)
		for fd, o := range own {
			table[fd] = numbers[o]
		}
		d.Tables = append(d.Tables, table)
	}
	return d
}

// at returns what a descriptor has open, and the first error.
func (m model) at(proc, fd int) (*opened, api.Errno) {
	if proc < 0 || proc >= len(m.procs) {
		return nil, api.ErrRange
	}
	if fd < 0 || fd > 15 || m.procs[proc][fd] == nil {
		return nil, api.ErrUnknown
	}
	return m.procs[proc][fd], api.OK
}

// give lets the least free descriptor of a process have something open, and returns it; -1 if there is none.
func (m model) give(proc int, o *opened) int {
	for fd, other := range m.procs[proc] {
		if other == nil {
			m.procs[proc][fd] = o
			return fd
		}
	}
	return -1
}

func modelOpen(d api.Descriptors, proc, file, flags, cursor int) (api.Descriptors, int, api.Errno) {
	m, ok := read(d)
	if !ok {
		return d, 0, api.ErrInvalid
	}
	o := &opened{file, flags, 0, cursor}
	if proc < 0 || proc >= len(m.procs) || !o.isRight() {
		return d, 0, api.ErrRange
	}
	fd := m.give(proc, o)
	if fd < 0 {
		return d, 0, api.ErrFull
	}
	m.places = append(m.places, nil)
	m.places[slices.Index(m.places, nil)] = o
	return m.show(), fd, api.OK
}

func modelDup(d api.Descriptors, proc, fd int) (api.Descriptors, int, api.Errno) {
	m, ok := read(d)
	if !ok {
		return d, 0, api.ErrInvalid
	}
	o, err := m.at(proc, fd)
	if err != api.OK {
		return d, 0, err
	}
	twin := m.give(proc, o)
	if twin < 0 {
		return d, 0, api.ErrFull
	}
	return m.show(), twin, api.OK
}

func modelFork(d api.Descriptors, from, to int) (api.Descriptors, api.Errno) {
	m, ok := read(d)
	if !ok {
		return d, api.ErrInvalid
	}
	for _, proc := range []int{from, to} {
		if _, err := m.at(proc, 0); err == api.ErrRange || from == to {
			return d, api.ErrRange
		}
	}
	if m.procs[to] != [mostOpen]*opened{} {
		return d, api.ErrExists
	}
	m.procs[to] = m.procs[from]
	return m.show(), api.OK
}

func modelClose(d api.Descriptors, proc, fd int) (api.Descriptors, bool, api.Errno) {
	m, ok := read(d)
	if !ok {
		return d, false, api.ErrInvalid
	}
	o, err := m.at(proc, fd)
	if err != api.OK {
		return d, false, err
	}
	m.procs[proc][fd] = nil
	return m.show(), m.users(o) == 0, api.OK
}

func modelLookup(d api.Descriptors, proc, fd int) (int, api.Description, api.Errno) {
	m, ok := read(d)
	if !ok {
		return 0, api.Description{}, api.ErrInvalid
	}
	o, err := m.at(proc, fd)
	if err != api.OK {
		return 0, api.Description{}, err
	}
	return slices.Index(m.places, o), api.Description{File: o.file, Flags: o.flags, Offset: o.offset, Cursor: o.cursor, Refs: m.users(o)}, api.OK
}

func modelUpdate(d api.Descriptors, n int, x api.Description) (api.Descriptors, api.Errno) {
	m, ok := read(d)
	if !ok {
		return d, api.ErrInvalid
	}
	if n < 0 || n >= len(m.places) || m.places[n] == nil {
		return d, api.ErrUnknown
	}
	m.places[n].offset, m.places[n].cursor = x.Offset, x.Cursor
	if !m.places[n].isRight() {
		return d, api.ErrRange
	}
	return m.show(), api.OK
}

// same reports whether descriptors are equal; a list that is nil is equal to an empty one.
func same(a, b api.Descriptors) bool {
	return slices.Equal(a.Open, b.Open) && slices.EqualFunc(a.Tables, b.Tables, slices.Equal)
}
