package flow

import "container/heap"

// heads are the streams that have a head, as the library's heap: in front is the one that is told first.
type heads[T any] []*stream[T]

func (h heads[T]) Len() int { return len(h) }

// Less tells whether one is told rather than the other: of two with one key that of the first list is.
func (h heads[T]) Less(i, j int) bool {
	return h[i].key < h[j].key || h[i].key == h[j].key && h[i].list < h[j].list
}

func (h heads[T]) Swap(i, j int) { h[i], h[j] = h[j], h[i] }

func (h *heads[T]) Push(x any) { *h = append(*h, x.(*stream[T])) }

func (h *heads[T]) Pop() any {
	last := len(*h) - 1
	s := (*h)[last]
	*h = (*h)[:last]
	return s
}

// least takes all those out whose head has the least key, the first list's in front. They come out together, ahead of what comes next of them: a list passes one thing, and its next may have the same key.
func (h *heads[T]) least() []*stream[T] {
	var l []*stream[T]
	for h.Len() > 0 && (len(l) == 0 || (*h)[0].key == l[0].key) {
		l = append(l, heap.Pop(h).(*stream[T]))
	}
	return l
}

// refill takes those in of which another thing comes, one by one.
func (h *heads[T]) refill(key func(T) uint64, passed []*stream[T]) {
	for _, s := range passed {
		if s.next() {
			s.key = key(s.head)
			heap.Push(h, s)
		}
	}
}
