package errseq

import "pagecache/api"

// observer looks at a right sequence, and answers what it is told and its new cursor. It keeps nothing but the cursor that it began with, so that a second look with it is like the first one.
type observer func(api.Errseq) (api.Errno, int)

// place is the cursor of an observer: how many errors of a sequence are behind it.
type place int

// observerAt returns the observer that has a cursor.
func observerAt(cursor int) observer {
	return place(cursor).look
}

// look tells the last error for all that were recorded since, because a sequence does not keep the others.
func (p place) look(e api.Errseq) (api.Errno, int) {
	if !p.isBehind(e) {
		return api.OK, int(p)
	}
	return e.Err, e.Count
}

// isIn reports whether an observer of a sequence can be at a place.
func (p place) isIn(e api.Errseq) bool {
	return p >= 0 && int(p) <= e.Count
}

// isBehind reports whether errors were recorded since an observer was at a place.
func (p place) isBehind(e api.Errseq) bool {
	return int(p) < e.Count
}
