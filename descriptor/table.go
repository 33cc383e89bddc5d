package descriptor

import (
	"slices"

	"pagecache/api"
)

// isFrom reports whether a number is from a least one to a greatest one.
func isFrom(n, least, greatest int) bool {
	return n >= least && n <= greatest
}

// isRight reports whether a description is right: one that nobody has is zero.
func isRight(x api.Description) bool {
	return x == api.Description{} || x.Refs > 0 && opens(x) && isAt(x)
}

// opens reports whether a description has a file and flags that there can be. To append is no way of access by itself.
func opens(x api.Description) bool {
	return isFrom(x.File, 0, api.MaxFiles-1) && isFrom(x.Flags, api.FlagRead, api.FlagRead|api.FlagWrite|api.FlagAppend) && x.Flags != api.FlagAppend
}

// isAt reports whether a description has an offset and a cursor that there can be.
func isAt(x api.Description) bool {
	return isFrom(x.Offset, 0, api.MaxSize) && isFrom(x.Cursor, 0, api.MaxTick)
}

// count returns how many descriptors have each description, and false if a table has a wrong length or a number that is of no description.
func count(d api.Descriptors) ([]int, bool) {
	refs := make([]int, len(d.Open))
	for _, table := range d.Tables {
		if len(table) != api.MaxOpen {
			return nil, false
		}
		for _, entry := range table {
			if !isFrom(entry, 0, len(d.Open)) {
				return nil, false
			}
			if entry > 0 {
				refs[entry-1]++
			}
		}
	}
	return refs, true
}

func hasProc(d api.Descriptors, proc int) bool {
	return isFrom(proc, 0, len(d.Tables)-1)
}

// free returns the least free descriptor of a table, or -1 if none is free.
func free(table []int) int {
	return slices.Index(table, 0)
}

// unused returns the place of a new description. The numbers of the others stay, because descriptors have them.
func unused(open []api.Description) int {
	n := slices.Index(open, api.Description{})
	if n < 0 {
		return len(open)
	}
	return n
}

// trimmed returns descriptions without the zero ones at the end.
func trimmed(open []api.Description) []api.Description {
	n := len(open)
	for n > 0 && open[n-1] == (api.Description{}) {
		n--
	}
	return open[:n]
}

// find returns the number of the description of a descriptor, or the first error of looking for it.
func find(d api.Descriptors, proc, fd int) (int, api.Errno) {
	switch {
	case !Check(d):
		return 0, api.ErrInvalid
	case !hasProc(d, proc):
		return 0, api.ErrRange
	case !isFrom(fd, 0, api.MaxOpen-1) || d.Tables[proc][fd] == 0:
		return 0, api.ErrUnknown
	}
	return d.Tables[proc][fd] - 1, api.OK
}

// checkOpen returns the first error of giving a process a new description.
func checkOpen(d api.Descriptors, proc int, x api.Description) api.Errno {
	switch {
	case !Check(d):
		return api.ErrInvalid
	case !hasProc(d, proc) || !opens(x) || !isAt(x):
		return api.ErrRange
	case free(d.Tables[proc]) < 0:
		return api.ErrFull
	}
	return api.OK
}

// checkFork returns the first error of giving a process all that another one has.
func checkFork(d api.Descriptors, from, to int) api.Errno {
	switch {
	case !Check(d):
		return api.ErrInvalid
	case !hasProc(d, from) || !hasProc(d, to) || from == to:
		return api.ErrRange
	case slices.ContainsFunc(d.Tables[to], func(entry int) bool { return entry != 0 }):
		return api.ErrExists
	}
	return api.OK
}

// checkUpdate returns the first error of changing a description.
func checkUpdate(d api.Descriptors, n int, x api.Description) api.Errno {
	switch {
	case !Check(d):
		return api.ErrInvalid
	case !isFrom(n, 0, len(d.Open)-1) || d.Open[n].Refs == 0:
		return api.ErrUnknown
	case !isAt(x):
		return api.ErrRange
	}
	return api.OK
}

// copied returns descriptors with memory of their own, to be changed in place of those of the caller.
func copied(d api.Descriptors) api.Descriptors {
	next := api.Descriptors{Open: slices.Clone(d.Open), Tables: slices.Clone(d.Tables)}
	for proc, table := range d.Tables {
		next.Tables[proc] = make([]int, len(table))
		copy(next.Tables[proc], table)
	}
	return next
}
