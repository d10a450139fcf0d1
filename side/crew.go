package side

import "sync"

// crew are workers that do what is numbered, each another number at a time.
type crew struct {
	do   func(i int) (enough bool)
	next chan int       // the numbers, from 0 on; closed behind the last that is handed out
	stop chan struct{}  // closed, when no further number need be done
	once sync.Once      // several workers may find that it is enough
	all  sync.WaitGroup // the workers
}

// share has the numbers from 0 to n - 1 done by some workers, until one of them tells that it is enough. When it answers, no worker is left, and the numbers that were done are all those up to some last one.
func share(n, workers int, do func(i int) (enough bool)) {
	c := &crew{do: do, next: make(chan int), stop: make(chan struct{})}
	for range min(n, workers) { // a further one would have nothing to do
		c.all.Add(1)
		go c.work()
	}
	c.handOut(n)
	c.all.Wait()
}

// handOut waits for a worker that takes the next number, or for the stop.
func (c *crew) handOut(n int) {
	defer close(c.next)
	for i := range n {
		select {
		case c.next <- i:
		case <-c.stop:
			return
		}
	}
}

// work is what a worker does. It ends where it finds that it is enough: what it would get later stands behind that.
func (c *crew) work() {
	defer c.all.Done()
	for i := range c.next {
		if c.do(i) {
			c.once.Do(func() { close(c.stop) })
			return
		}
	}
}
