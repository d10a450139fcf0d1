package tower

import (
	"incline/api"
	"incline/run"
)

// row has runs, the newest first (nil: there is none in that place).
type row []*run.Run

// live tells whether the newest entry of a key is there, and is no tombstone.
func (r row) live(key uint64) bool {
	for _, one := range r {
		if one == nil {
			continue
		}
		if e, there := one.Get(key); there {
			return !e.Gone
		}
	}
	return false
}

// count is how many keys are live in a buffer's entries over runs; fits: whether there are at most most of them, and in each run with those older than it likewise. The older ones are held to it by themselves, too: a run that is built over them may have a tombstone for each key that is live in them.
func count(buffer []api.Entry, runs row, most int) (live int, fits bool) {
	for class := len(runs) - 1; class >= 0; class-- {
		if runs[class] == nil {
			continue
		}
		live += gained(runs[class].List(), runs[class+1:])
		if live > most {
			return 0, false
		}
	}
	live += gained(buffer, runs)
	if live > most {
		return 0, false
	}
	return live, true
}

// gained is how many more keys are live with entries than in what is older alone.
func gained(l []api.Entry, older row) int {
	n := 0
	for _, e := range l {
		was := older.live(e.Key)
		switch {
		case e.Gone && was:
			n--
		case !e.Gone && !was:
			n++
		}
	}
	return n
}
