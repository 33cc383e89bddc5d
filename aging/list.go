package aging

import (
	"slices"

	"pagecache/api"
)

func isFile(n int) bool {
	return n >= 0 && n < api.MaxFiles
}

func isTick(n int) bool {
	return n >= 0 && n <= api.MaxTick
}

// position returns where a file stands in a list, or -1.
func position(l []api.Due, file int) int {
	return slices.IndexFunc(l, func(d api.Due) bool { return d.File == file })
}

func isListed(l []api.Due, file int) bool {
	return position(l, file) >= 0
}

// lastSince returns the Since that no new one may be less than.
func lastSince(l []api.Due) int {
	if len(l) == 0 {
		return 0
	}
	return l[len(l)-1].Since
}

// checkFile returns the first error of a list and a file.
func checkFile(l []api.Due, file int) api.Errno {
	if !Check(l) {
		return api.ErrInvalid
	}
	if !isFile(file) {
		return api.ErrRange
	}
	return api.OK
}

// checkAddition returns the first error of a list, a file, and the tick at which it is to be added. Also a file that would keep its place is refused at a tick before the last one.
func checkAddition(l []api.Due, file, now int) api.Errno {
	if err := checkFile(l, file); err != api.OK {
		return err
	}
	if !isTick(now) || now < lastSince(l) {
		return api.ErrRange
	}
	return api.OK
}

// without returns a right list without a file that it has.
func without(l []api.Due, file int) []api.Due {
	at := position(l, file)
	return merged(l[:at], l[at+1:])
}

// merged returns what two right lists have, in order of Since. They take turns: of equal ones, those of the first list come first.
func merged(first, second []api.Due) []api.Due {
	var l []api.Due
turns:
	for {
		switch {
		case len(first) > 0 && (len(second) == 0 || first[0].Since <= second[0].Since):
			l, first = append(l, first[0]), first[1:]
		case len(second) > 0:
			l, second = append(l, second[0]), second[1:]
		default:
			break turns
		}
	}
	return l
}
