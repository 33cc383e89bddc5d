package throttle

import "pagecache/api"

// integer is what can be divided with a rest.
type integer interface {
	~int | ~int32 | ~int64
}

// roundedUp returns a number divided by one above 0, rounded up. It adds nothing to the number, because that could be the greatest one.
func roundedUp[N integer](number, by N) N {
	if number%by > 0 {
		return number/by + 1
	}
	return number / by
}

// isCount reports whether n can be a number of pages in memory.
func isCount(n int) bool {
	return n >= 0 && n <= api.MaxFrames
}
