package side

import (
	"slices"
	"sync/atomic"
	"testing"
	"testing/synctest"
)

// P19.3: every number is done once, by no more workers at a time than there are to be.
func TestShareDoesEachOnce(t *testing.T) {
	for workers := 1; workers <= 16; workers++ {
		for _, n := range []int{0, 1, workers - 1, workers, workers + 1, 300} {
			times := make([]atomic.Int64, n)
			var busy atomic.Int64
			share(n, workers, func(i int) bool {
				if busy.Add(1) > int64(workers) {
					t.Errorf("more than %d at a time", workers)
				}
				times[i].Add(1)
				busy.Add(-1)
				return false
			})
			for i := range times {
				if c := times[i].Load(); c != 1 {
					t.Fatalf("%d of %d, by %d workers: done %d times", i, n, workers, c)
				}
			}
		}
	}
}

// Questions are asked at the same time: as many as there are workers, or questions, none of them waiting for another one.
func TestShareAtTheSameTime(t *testing.T) {
	for workers := 1; workers <= 16; workers++ {
		for _, n := range []int{1, workers, workers + 1, 5 * workers} {
			synctest.Test(t, func(t *testing.T) {
				var busy, done atomic.Int64
				gate, over := make(chan struct{}), make(chan struct{})
				go func() {
					defer close(over)
					share(n, workers, func(int) bool {
						busy.Add(1)
						<-gate
						done.Add(1)
						return false
					})
				}()
				synctest.Wait() // until nobody can do more
				if b := busy.Load(); b != int64(min(n, workers)) {
					t.Errorf("%d at a time, of %d by %d workers", b, n, workers)
				}
				close(gate)
				<-over
				if d := done.Load(); d != int64(n) {
					t.Errorf("%d are done when it answers, not %d", d, n)
				}
			})
		}
	}
}

// P19.2: the numbers come in their order, so all ahead of one that is done are done; and behind the stop no worker that waits gets another.
func TestShareStops(t *testing.T) {
	for workers := 1; workers <= 16; workers++ {
		for found := range workers {
			synctest.Test(t, func(t *testing.T) {
				begun := make([]bool, 100)
				gates := make([]chan struct{}, len(begun))
				for i := range gates {
					gates[i] = make(chan struct{})
				}
				var ended atomic.Int64
				over := make(chan struct{})
				go func() {
					defer close(over)
					share(len(begun), workers, func(i int) bool {
						begun[i] = true
						<-gates[i]
						ended.Add(1)
						return i == found
					})
				}()
				synctest.Wait()
				close(gates[found]) // the others are still at theirs
				synctest.Wait()
				select {
				case <-over:
					if workers > 1 {
						t.Errorf("%d workers: it answers ahead of their end", workers)
					}
				default:
				}
				for i := range gates {
					if i != found {
						close(gates[i])
					}
				}
				<-over
				if slices.Contains(begun[:workers], false) || slices.Contains(begun[workers:], true) {
					t.Errorf("%d workers, enough at %d: begun are %v", workers, found, begun[:20])
				}
				if n := ended.Load(); n != int64(workers) {
					t.Errorf("%d have ended when it answers, of %d", n, workers)
				}
			})
		}
	}
}

// P19.2, P19.3: several, or all, find at the same time that it is enough.
func TestShareEnoughForAll(t *testing.T) {
	for workers := 1; workers <= 16; workers++ {
		for _, n := range []int{1, workers, 100} {
			for range 20 {
				done := make([]bool, n)
				share(n, workers, func(i int) bool {
					done[i] = true
					return true
				})
				last := slices.Index(append(slices.Clone(done), false), false)
				if last == 0 || last > workers || slices.Contains(done[last:], true) {
					t.Fatalf("%d of %d, by %d workers: %v", last, n, workers, done)
				}
			}
		}
	}
}
