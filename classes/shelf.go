package classes

import (
	"incline/api"
	"incline/run"
)

// shelf has runs, the newest first (nil: there is none in that place).
type shelf []*run.Run

// newest is the entry of a key of the first run that has one, be it a tombstone.
func (s shelf) newest(key uint64) (api.Entry, bool) {
	for _, r := range s {
		if r == nil {
			continue
		}
		if e, there := r.Get(key); there {
			return e, true
		}
	}
	return api.Entry{}, false
}

// live tells whether the newest entry of a key is there, and is no tombstone.
func (s shelf) live(key uint64) bool {
	e, there := s.newest(key)
	return there && !e.Gone
}

// needs tells whether all tombstones of a run are of keys that are live in what is older.
func needs(r *run.Run, live func(key uint64) bool) bool {
	for i := range r.Len() {
		if e, _ := r.At(i); e.Gone && !live(e.Key) {
			return false
		}
	}
	return true
}

func isThere(r *run.Run) bool { return r != nil }
