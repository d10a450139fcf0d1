package merge

// head is a list's first thing that was not passed, with all that come behind it.
type head[T any] struct {
	key  uint64
	list int // its place among the lists
	left []T // never empty: the head is its first
}

// ahead tells whether a is told rather than b: of two with one key that of the first list is.
func (a head[T]) ahead(b head[T]) bool {
	return a.key < b.key || a.key == b.key && a.list < b.list
}

// heap has the heads of all lists that have one. That at a place i stands over those at 2 * i + 1 and 2 * i + 2, which are never ahead of it: so the first of all is in front.
type heap[T any] struct {
	key    func(T) uint64
	heads  []head[T]
	passed []head[T] // those that next takes out; it is kept for its room alone
}

func heapOf[T any](key func(T) uint64, lists [][]T) *heap[T] {
	h := &heap[T]{key: key}
	for i, left := range lists {
		h.push(i, left)
	}
	return h
}

// next is the thing that is told next, and false, if there is none. All heads with its key come out ahead of what stands behind them in their lists: a list passes one thing, and its next may have the same key.
func (h *heap[T]) next() (T, bool) {
	if len(h.heads) == 0 {
		var none T
		return none, false
	}
	first := h.heads[0]
	h.passed = h.passed[:0]
	for len(h.heads) > 0 && h.heads[0].key == first.key {
		h.passed = append(h.passed, h.pop())
	}
	for _, p := range h.passed {
		h.push(p.list, p.left[1:])
	}
	return first.left[0], true
}

// push takes the head of a list of which these are left, if there is one.
func (h *heap[T]) push(list int, left []T) {
	if len(left) == 0 {
		return
	}
	h.heads = append(h.heads, head[T]{key: h.key(left[0]), list: list, left: left})
	h.rise(len(h.heads) - 1)
}

// pop takes the first head out.
func (h *heap[T]) pop() head[T] {
	first := h.heads[0]
	last := len(h.heads) - 1
	h.heads[0] = h.heads[last]
	h.heads = h.heads[:last]
	h.sink(0)
	return first
}

// rise brings a head to the front, past all that it is ahead of.
func (h *heap[T]) rise(at int) {
	for at > 0 {
		up := (at - 1) / 2
		if !h.heads[at].ahead(h.heads[up]) {
			return
		}
		h.heads[at], h.heads[up] = h.heads[up], h.heads[at]
		at = up
	}
}

// sink brings a head to the back, past all that are ahead of it.
func (h *heap[T]) sink(at int) {
	for {
		down := h.below(at)
		if down == at {
			return
		}
		h.heads[at], h.heads[down] = h.heads[down], h.heads[at]
		at = down
	}
}

// below is the place of the first of three heads: that at a place, and the two that it stands over.
func (h *heap[T]) below(at int) int {
	first := at
	for _, i := range [2]int{2*at + 1, 2*at + 2} {
		if i < len(h.heads) && h.heads[i].ahead(h.heads[first]) {
			first = i
		}
	}
	return first
}
