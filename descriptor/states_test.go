package descriptor

import (
	"slices"

	"pagecache/api"
)

// description returns a description with its fields in turn.
func description(file, flags, offset, cursor, refs int) api.Description {
	return api.Description{File: file, Flags: flags, Offset: offset, Cursor: cursor, Refs: refs}
}

// table returns a table that begins with these entries; the rest is free.
func table(entries ...int) []int {
	return append(entries, make([]int, mostOpen-len(entries))...)
}

// filled returns a table without a free descriptor, with entries from the first one on that go up in steps.
func filled(first, step int) []int {
	var l []int
	for fd := range mostOpen {
		l = append(l, first+fd*step)
	}
	return l
}

// freeTables returns the tables of so many processes that have nothing open.
func freeTables(procs int) [][]int {
	var l [][]int
	for range procs {
		l = append(l, table())
	}
	return l
}

// several returns so many descriptions that differ, of which each has so many descriptors.
func several(count, refs int) []api.Description {
	var l []api.Description
	for n := range count {
		l = append(l, description(n%8, goodFlags[n%6], n%129, n*n, refs))
	}
	return l
}

// whole returns the descriptors of all processes, each of them with a description of its own.
func whole() api.Descriptors {
	d := api.Descriptors{Open: several(mostProcs*mostOpen, 1)}
	for proc := range mostProcs {
		d.Tables = append(d.Tables, filled(1+proc*mostOpen, 1))
	}
	return d
}

// shared returns the descriptors of all processes, which have one description.
func shared() api.Descriptors {
	d := api.Descriptors{Open: several(1, mostProcs*mostOpen)}
	for range mostProcs {
		d.Tables = append(d.Tables, filled(1, 0))
	}
	return d
}

// lastOnly returns descriptors of which the last description that there can be is the only one.
func lastOnly() api.Descriptors {
	open := append(make([]api.Description, mostProcs*mostOpen-1), description(7, 7, lastOffset, lastCursor, 2))
	return api.Descriptors{Open: open, Tables: [][]int{table(0, 128), table(), table(0, 0, 128)}}
}

// family returns descriptors of three processes with holes in tables and descriptions, and with what was opened, duplicated and inherited.
func family() api.Descriptors {
	return api.Descriptors{
		Open:   []api.Description{description(2, 3, 5, 0, 3), {}, description(0, 1, 0, 0, 1), {}, {}, description(7, 6, 128, 1000000, 2)},
		Tables: [][]int{table(1, 0, 6, 1), table(1, 0, 6), table(0, 0, 0, 0, 0, 0, 0, 0, 0, 0, 0, 0, 0, 0, 0, 3), table()},
	}
}

// right returns right descriptors, from the least ones to the greatest ones.
func right() []api.Descriptors {
	l := []api.Descriptors{
		{Tables: freeTables(1)}, {Open: []api.Description{}, Tables: freeTables(2)}, {Tables: freeTables(8)},
		{Open: several(1, 1), Tables: [][]int{table(1)}}, {Open: several(1, 16), Tables: [][]int{filled(1, 0)}}, {Open: several(16, 1), Tables: [][]int{filled(1, 1)}}, {Open: several(16, 1), Tables: [][]int{table(), filled(16, -1), table()}}, {Open: several(16, 2), Tables: [][]int{filled(1, 1), filled(16, -1)}},
		{Open: several(2, 2), Tables: [][]int{table(1, 2, 2, 1)}}, {Open: several(2, 2), Tables: [][]int{table(0, 1, 0, 2), table(0, 2, 0, 1)}}, {Open: []api.Description{{}, description(3, 1, 2, 1, 1)}, Tables: [][]int{table(0, 2)}},
		{Open: several(15, 1), Tables: [][]int{filled(1, 1)[:15]}}, family(), lastOnly(), shared(), whole(),
	}
	l[11].Tables[0] = append(l[11].Tables[0], 0)
	for _, flags := range goodFlags {
		l = append(l, api.Descriptors{Open: []api.Description{description(0, flags, 0, 0, 1), description(lastFile, flags, lastOffset, lastCursor, 1)}, Tables: [][]int{table(2), table(0, 1)}})
	}
	return l
}

// copyOf returns descriptors in new memory, to be changed.
func copyOf(d api.Descriptors) api.Descriptors {
	next := api.Descriptors{Open: slices.Clone(d.Open)}
	for _, table := range d.Tables {
		next.Tables = append(next.Tables, slices.Clone(table))
	}
	return next
}

// withTables returns the family with other tables.
func withTables(tables ...[]int) api.Descriptors {
	return api.Descriptors{Open: family().Open, Tables: tables}
}

// withOpen returns the family with other descriptions.
func withOpen(open ...api.Description) api.Descriptors {
	return api.Descriptors{Open: open, Tables: family().Tables}
}

// badTables are descriptors that are not right because of their tables.
func badTables() []api.Descriptors {
	one := several(1, 1)
	l := []api.Descriptors{{}, {Tables: [][]int{}}, {Tables: freeTables(9)}, {Tables: freeTables(10)}, {Tables: freeTables(100)}, {Open: one}, {Open: one, Tables: append([][]int{table(1)}, freeTables(8)...)}}
	for _, length := range []int{0, 1, 2, 8, 14, 15, 17, 18, 32, 100} {
		l = append(l, api.Descriptors{Tables: [][]int{make([]int, length)}}, api.Descriptors{Tables: append(freeTables(7), make([]int, length))}, api.Descriptors{Tables: append([][]int{make([]int, length)}, freeTables(3)...)})
		if length > 0 {
			l = append(l, api.Descriptors{Open: one, Tables: [][]int{append([]int{1}, make([]int, length-1)...)}})
		}
	}
	f := family().Tables
	for _, entry := range append([]int{2, 4, 5, 7, 8, 9, 129}, farNumbers...) {
		own := table(0, entry)
		l = append(l, withTables(f[0], f[1], f[2], own), api.Descriptors{Tables: [][]int{own}}, api.Descriptors{Open: several(1, 2), Tables: [][]int{table(1, entry)}})
	}
	return append(l, withTables(f[0], f[1], f[2], table(1)), withTables(f[0], f[1], f[2], table(6)), withTables(f[0], f[1], table()), withTables(f[0], f[1], table(3, 3)), withTables(f[0], table(1), f[2]), withTables(f[0], table(1, 1), f[2]), withTables(table(1, 0, 6, 6), f[1], f[2]), api.Descriptors{Tables: [][]int{table(), nil}})
}

// badDescriptions are descriptors that are not right because of their descriptions.
func badDescriptions() []api.Descriptors {
	var l []api.Descriptors
	for n, x := range family().Open {
		var bad []api.Description
		for _, number := range farNumbers {
			bad = append(bad, description(number, x.Flags, x.Offset, x.Cursor, x.Refs), description(x.File, x.Flags, number, x.Cursor, x.Refs), description(x.File, x.Flags, x.Offset, number, x.Refs), description(x.File, x.Flags, x.Offset, x.Cursor, number))
		}
		for _, flags := range badFlags {
			if flags != x.Flags {
				bad = append(bad, description(x.File, flags, x.Offset, x.Cursor, x.Refs))
			}
		}
		bad = append(bad, description(8, max(x.Flags, 1), x.Offset, x.Cursor, x.Refs), description(x.File, max(x.Flags, 1), 129, x.Cursor, x.Refs), description(x.File, max(x.Flags, 1), x.Offset, 1000001, x.Refs))
		for _, refs := range []int{x.Refs - 1, x.Refs + 1, x.Refs + 2, -x.Refs - 1} {
			bad = append(bad, description(x.File, x.Flags, x.Offset, x.Cursor, refs))
		}
		if x.Refs == 0 {
			bad = append(bad, description(1, 0, 0, 0, 0), description(0, 1, 0, 0, 0), description(0, 0, 1, 0, 0), description(0, 0, 0, 1, 0), description(1, 1, 1, 1, 0), description(1, 1, 1, 1, 1))
		} else {
			bad = append(bad, api.Description{}, description(x.File, x.Flags, x.Offset, x.Cursor, 0))
		}
		for _, b := range bad {
			own := family()
			own.Open[n] = b
			l = append(l, own)
		}
	}
	return l
}

// badLengths are descriptors that are not right because of the number of their descriptions.
func badLengths() []api.Descriptors {
	f := family().Open
	l := []api.Descriptors{withOpen(), withOpen(f[:5]...), withOpen(f[:1]...), withOpen(append(f, api.Description{})...), withOpen(append(family().Open, make([]api.Description, 200)...)...), withOpen(append(family().Open, description(0, 1, 0, 0, 0))...), withOpen(append(family().Open, description(0, 1, 0, 0, 1))...)}
	for _, zeros := range []int{1, 2, 16, 128, 129} {
		l = append(l, api.Descriptors{Open: make([]api.Description, zeros), Tables: freeTables(2)})
	}
	for _, zeros := range []int{128, 129, 500} {
		l = append(l, api.Descriptors{Open: append(make([]api.Description, zeros), several(1, 1)...), Tables: [][]int{table(zeros + 1)}})
	}
	more := whole()
	more.Open = append(more.Open, description(0, 1, 0, 0, 0))
	last := whole()
	last.Open = append(last.Open, description(0, 1, 0, 0, 1))
	last.Open[5], last.Tables[0][5] = api.Description{}, 129
	return append(l, more, last)
}

// bad returns descriptors that are not right, for one reason each, and some for several.
func bad() []api.Descriptors {
	return slices.Concat(badTables(), badDescriptions(), badLengths())
}
