package stream

import (
	"cmp"
	"slices"

	"pagecache/api"
)

// hasStamp reports whether a stream of a list has a Stamp.
func hasStamp(l []api.Stream, stamp int) bool {
	return slices.ContainsFunc(l, func(s api.Stream) bool { return s.Stamp == stamp })
}

// checkFeed returns the first error of Feed.
func checkFeed(l []api.Stream, from, to int) api.Errno {
	if !Check(l) {
		return api.ErrInvalid
	}
	if !isAccess(from, to) {
		return api.ErrRange
	}
	if lastStamp(l) == api.MaxTick {
		return api.ErrFull
	}
	return api.OK
}

// lastStamp returns the greatest Stamp of a list, and 0 if there is none, so that the first stream has the Stamp 1.
func lastStamp(l []api.Stream) int {
	last := 0
	for _, s := range l {
		last = max(last, s.Stamp)
	}
	return last
}

// change returns the stream that an access leads to, with its Stamp still to be given, and the one of the list whose place it takes. That is the zero stream, which is none of a right list, if there is room for one more.
func change(l []api.Stream, from, to int) (fresh, old api.Stream) {
	if matching := matchingOf(l, from, to); len(matching) > 0 {
		old = slices.MaxFunc(matching, byClaim)
		fresh, _ = Matches(old, from, to)
		return fresh, old
	}
	if len(l) == api.MaxStreams {
		old = slices.MinFunc(l, byStamp)
	}
	return api.Stream{Kind: api.StreamNew, Start: from, End: to}, old
}

// matchingOf returns the streams of a list that match an access.
func matchingOf(l []api.Stream, from, to int) []api.Stream {
	var matching []api.Stream
	for _, s := range l {
		if _, ok := Matches(s, from, to); ok {
			matching = append(matching, s)
		}
	}
	return matching
}

// byClaim compares two right streams by what they have been ahead of the access that both match: the greater one gets it. Only new streams have no Hits, so that the Hits alone put them behind the others.
func byClaim(a, b api.Stream) int {
	return cmp.Or(cmp.Compare(a.Hits, b.Hits), byStamp(a, b))
}

// byStamp compares two streams by when they had their last accesses.
func byStamp(a, b api.Stream) int {
	return cmp.Compare(a.Stamp, b.Stamp)
}
