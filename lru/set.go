package lru

// set is a set of frames.
type set map[int]bool

// setOf returns the set of the frames of a list.
func setOf(list []int) set {
	s := set{}
	for _, f := range list {
		s[f] = true
	}
	return s
}

// takes puts the frames of a list into a set, and reports whether all are frames and the set had none of them. It ends with the first one that is not so, so that a long list is no long work.
func (s set) takes(list []int) bool {
	for _, f := range list {
		if !isFrame(f) || s[f] {
			return false
		}
		s[f] = true
	}
	return true
}

// hasAscending reports whether a list has frames of the set, each once, in ascending order.
func (s set) hasAscending(list []int) bool {
	last := 0
	for _, f := range list {
		if f <= last || !s[f] {
			return false
		}
		last = f
	}
	return true
}
