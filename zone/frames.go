package zone

import (
	"slices"

	"pagecache/api"
)

// fits reports whether there can be a zone of a size that begins at first: all zones together have no frame above MaxFrames.
func fits(first, size int) bool {
	return size >= 1 && size <= api.MaxFrames+1-first
}

// isRight reports whether a zone is right that begins where it has to.
func isRight(z api.Zone) bool {
	return fits(z.First, z.Size) && slices.IsSorted([]int{0, z.Min, z.Low, z.High, z.Size}) && hasFree(z)
}

// hasFree reports whether the free frames are ones of the zone, each once, in ascending order. It ends with the first one that is not so, so that a long list is no long work.
func hasFree(z api.Zone) bool {
	last := 0
	for _, f := range z.Free {
		if f <= last || !has(z, f) {
			return false
		}
		last = f
	}
	return true
}

// has reports whether a frame is one of a zone.
func has(z api.Zone, frame int) bool {
	return frame >= z.First && frame < z.First+z.Size
}

// gives reports whether a zone has a frame to give: what is urgent may use those that Min keeps back.
func gives(z api.Zone, urgent bool) bool {
	if urgent {
		return len(z.Free) > 0
	}
	return len(z.Free) > z.Min
}

// lacks returns how many free frames a zone has less than a watermark.
func lacks(z api.Zone, mark int) int {
	return max(mark-len(z.Free), 0)
}

// unused returns a zone of which no frame is taken.
func unused(first, size int) api.Zone {
	z := api.Zone{First: first, Size: size, Min: size / 8, Low: size / 4, High: size / 2}
	for i := range size {
		z.Free = append(z.Free, first+i)
	}
	return z
}

// copied returns zones with memory of their own.
func copied(l []api.Zone) []api.Zone {
	next := slices.Clone(l)
	for i := range next {
		next[i].Free = slices.Clone(next[i].Free)
	}
	return next
}

// inserted returns free frames with one more, which is the one at the place at, in memory of their own.
func inserted(free []int, at, frame int) []int {
	next := make([]int, len(free)+1)
	copy(next, free[:at])
	next[at] = frame
	copy(next[at+1:], free[at:])
	return next
}
