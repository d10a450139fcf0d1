package ask

import (
	"cmp"
	"iter"
	"math"
	"slices"

	"incline/api"
	"incline/tower"
)

// sorted has entries by rising keys, as a run has, and never changes.
type sorted interface {
	Len() int
	At(i int) (api.Entry, api.Errno)
	Rank(q uint64) int
}

// loose are entries that are no run yet. To ask them as a run is asked they need no levels: those would have to be built for every question.
type loose []api.Entry

func (l loose) Len() int { return len(l) }

func (l loose) At(i int) (api.Entry, api.Errno) { return l[i], api.OK }

func (l loose) Rank(q uint64) int {
	n, _ := slices.BinarySearchFunc(l, q, compare)
	return n
}

// listsOf are a tower's entries as it is now, the newest list first: its buffer's are copied, and runs never change, so later changes don't show in them.
func listsOf(t *tower.Tower) []sorted {
	l := []sorted{loose(t.Buffer())}
	for _, r := range t.Runs() {
		if r != nil {
			l = append(l, r)
		}
	}
	return l
}

// upTo is how many keys of a list are not above q.
func upTo(l sorted, q uint64) int {
	if q == math.MaxUint64 {
		return l.Len()
	}
	return l.Rank(q + 1)
}

// rising goes through the entries of a list from one place up to the one ahead of another; through none, if that is not above.
func rising(l sorted, from, to int) iter.Seq[api.Entry] {
	return func(yield func(api.Entry) bool) {
		for i := from; i < to; i++ {
			if e, _ := l.At(i); !yield(e) {
				return
			}
		}
	}
}

// falling goes through the first n entries of a list, from the last of them down.
func falling(l sorted, n int) iter.Seq[api.Entry] {
	return func(yield func(api.Entry) bool) {
		for i := n - 1; i >= 0; i-- {
			if e, _ := l.At(i); !yield(e) {
				return
			}
		}
	}
}

func byKey(e api.Entry) uint64 { return e.Key }

// againstKey rises where the key falls: by it lists that fall are brought together as others are.
func againstKey(e api.Entry) uint64 { return ^e.Key }

func compare(e api.Entry, key uint64) int { return cmp.Compare(e.Key, key) }
