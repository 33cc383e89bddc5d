package page

import (
	"strings"

	"pagecache/api"
)

// allSectors is the set of all sectors of a page.
const allSectors = 1<<api.PageSectors - 1

// isSet reports whether a number is a set of sectors.
func isSet(sectors int) bool {
	return sectors >= 0 && sectors <= allSectors
}

// isRange reports whether the bytes off to off + n - 1 are a range of a page. The sum is not computed, because it may overflow.
func isRange(off, n int) bool {
	return off >= 0 && n >= 0 && off <= api.PageBytes && n <= api.PageBytes-off
}

// touched returns the sectors of which a range has a byte.
func touched(off, n int) int {
	return sectorsWith(off, n, 1)
}

// covered returns the sectors of which a range has all bytes.
func covered(off, n int) int {
	return sectorsWith(off, n, api.SectorBytes)
}

// sectorsWith returns the sectors of which a range has at least so many bytes.
func sectorsWith(off, n, least int) int {
	set := 0
	for k := range api.PageSectors {
		begin := max(off, k*api.SectorBytes)
		end := min(off+n, (k+1)*api.SectorBytes)
		if end-begin >= least {
			set |= 1 << k
		}
	}
	return set
}

// mix returns the bytes of fresh in the sectors of a set, and those of old in the others.
func mix(old, fresh string, set int) string {
	data := ""
	for k := range api.PageSectors {
		from := old
		if set>>k&1 == 1 {
			from = fresh
		}
		data += from[k*api.SectorBytes : (k+1)*api.SectorBytes]
	}
	return data
}

// zeros returns the bytes of a page without data.
func zeros() string {
	return strings.Repeat("\x00", api.PageBytes)
}
