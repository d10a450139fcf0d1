package flow

import (
	"iter"
	"sync"
)

// stream is a list that comes over a channel. A goroutine goes through it, and rests, in the list's yield, until another thing is asked for. So no list is ahead of what is asked for, and nothing of any list runs beside whoever takes the things, nor beside another list: lists may share what they reckon with, and one may be handed in twice.
type stream[T any] struct {
	list int // its place among the lists
	head T   // what came last
	key  uint64

	asks   chan struct{}
	things chan T         // closed, when the list is over
	stop   chan struct{}  // closed, when nothing is asked for any more
	runs   sync.WaitGroup // the goroutine
}

// begin has a stream for each list. None of them is gone through until its first thing is asked for.
func begin[T any](lists []iter.Seq[T]) []*stream[T] {
	var streams []*stream[T]
	for i, list := range lists {
		if list == nil { // like one without things, as a nil slice is
			continue
		}
		s := &stream[T]{list: i, asks: make(chan struct{}), things: make(chan T), stop: make(chan struct{})}
		s.runs.Add(1)
		go s.run(list)
		streams = append(streams, s)
	}
	return streams
}

// end stops streams, and waits until their lists were left, one behind the other.
func end[T any](streams []*stream[T]) {
	for _, s := range streams {
		close(s.stop)
		s.runs.Wait()
	}
}

// run is what the goroutine does.
func (s *stream[T]) run(list iter.Seq[T]) {
	defer s.runs.Done()
	defer close(s.things)
	if !s.wanted() {
		return
	}
	for x := range list {
		s.things <- x // whoever asked waits for it
		if !s.wanted() {
			return
		}
	}
}

// wanted waits for whoever takes the next thing, or for the stop: it tells whether there is to be one.
func (s *stream[T]) wanted() bool {
	select {
	case <-s.asks:
		return true
	case <-s.stop:
		return false
	}
}

// next brings the list's next thing to its head, and tells whether there is one. It is not asked again once there is none: by then nobody hears it.
func (s *stream[T]) next() bool {
	s.asks <- struct{}{}
	x, ok := <-s.things
	s.head = x
	return ok
}
