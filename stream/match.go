package stream

import "pagecache/api"

const (
	leastStride = 2 // a step of one page is forward or backward
	sureHits    = 2
)

// isAccess reports whether the pages from to to - 1 can be accessed.
func isAccess(from, to int) bool {
	return from >= 0 && from < to && to <= api.MaxIndex+1
}

// isRight reports whether a stream is right: its kind goes with its Hits and its Step.
func isRight(s api.Stream) bool {
	if !isAccess(s.Start, s.End) || !isCount(s.Hits) || !isCount(s.Stamp) || (s.Hits == 0) != (s.Kind == api.StreamNew) {
		return false
	}
	switch s.Kind {
	case api.StreamNew, api.StreamForward, api.StreamBackward:
		return s.Step == 0
	case api.StreamStride:
		return isStep(s.Step, s.End-s.Start)
	}
	return false
}

// isCount reports whether n can be a number of Hits or a Stamp.
func isCount(n int) bool {
	return n >= 0 && n <= api.MaxTick
}

// isStep reports whether accesses of a length can be a step apart. A length above the step would have pages twice.
func isStep(step, length int) bool {
	size := max(step, -step)
	return size >= leastStride && size <= api.MaxStride && length <= size
}

// goesForward reports whether an access is the next one of a forward stream, which may begin with the last page again, because an access by bytes can end within a page.
func goesForward(s api.Stream, from, to int) bool {
	return canBe(s, api.StreamForward) && (from == s.End || from == s.End-1) && to > s.End
}

// goesBackward reports whether an access is the next one of a backward stream, which may end with the first page again.
func goesBackward(s api.Stream, from, to int) bool {
	return canBe(s, api.StreamBackward) && (to == s.Start || to == s.Start+1) && from < s.Start
}

// strides reports whether an access is the next one of a stream in strides. The step of a new stream is not known ahead, so that any one that both accesses fit in will do.
func strides(s api.Stream, from, to int) bool {
	step := from - s.Start
	if s.Kind == api.StreamStride && step != s.Step {
		return false
	}
	return canBe(s, api.StreamStride) && isStep(step, s.End-s.Start) && isStep(step, to-from)
}

// canBe reports whether a stream is of a kind, or new, so that it can become one of this kind.
func canBe(s api.Stream, kind int) bool {
	return s.Kind == api.StreamNew || s.Kind == kind
}

// grown returns a stream with one more access, by which it is of a kind.
func grown(s api.Stream, kind, step, from, to int) api.Stream {
	return api.Stream{Kind: kind, Start: from, End: to, Step: step, Hits: min(s.Hits+1, api.MaxTick), Stamp: s.Stamp}
}

// pageAhead returns the page that comes i pages behind the next one of a right stream that is not new. It need not exist.
func pageAhead(s api.Stream, i int) int {
	switch s.Kind {
	case api.StreamForward:
		return s.End + i
	case api.StreamBackward:
		return s.Start - 1 - i
	}
	length := s.End - s.Start
	return s.Start + (i/length+1)*s.Step + i%length
}
