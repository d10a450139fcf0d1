package flow

import (
	"iter"
	"math"
	"runtime"
	"slices"
	"strconv"
	"sync"
	"sync/atomic"
	"testing"
	"testing/synctest"
	"time"

	"incline/api"
	"incline/merge"
)

const top = math.MaxUint64

// thing knows where it came from, so that of two with one key it can be told which it is.
type thing struct {
	key      uint64
	list, at int
}

func (x thing) byKey() uint64 { return x.key }

func self(n uint64) uint64 { return n }

func lastDigit(n int) uint64 { return uint64(n % 10) }

// scatter gives words without a pattern, of all lengths, always the same ones.
func scatter() func() uint64 {
	x := uint64(0x9e3779b97f4a7c15)
	next := func() uint64 {
		x ^= x << 13
		x ^= x >> 7
		x ^= x << 17
		return x
	}
	return func() uint64 { return next() >> (next() % 64) }
}

// each hands over every list of at most most things of kinds.
func each[T any](kinds []T, most int, do func([]T)) {
	var grow func(l []T)
	grow = func(l []T) {
		do(slices.Clone(l))
		if len(l) == most {
			return
		}
		for _, k := range kinds {
			grow(append(slices.Clone(l), k))
		}
	}
	grow(nil)
}

// step is a thing that is told, and how many each list has passed when it is.
type step struct {
	told   thing
	passed []int
}

// plain goes by the words of P13.1: every head is looked at for each thing that is told.
func plain(lists [][]thing) []step {
	var steps []step
	passed := make([]int, len(lists))
	for {
		first := -1
		for i, l := range lists {
			if passed[i] < len(l) && (first < 0 || l[passed[i]].key < lists[first][passed[first]].key) {
				first = i
			}
		}
		if first < 0 {
			return steps
		}
		x := lists[first][passed[first]]
		steps = append(steps, step{x, slices.Clone(passed)})
		for i, l := range lists {
			if passed[i] < len(l) && l[passed[i]].key == x.key {
				passed[i]++
			}
		}
	}
}

// toldOf are the things of steps.
func toldOf(steps []step) []thing {
	var l []thing
	for _, s := range steps {
		l = append(l, s.told)
	}
	return l
}

// seqs are lists as Join takes them.
func seqs[T any](lists [][]T) []iter.Seq[T] {
	var l []iter.Seq[T]
	for _, list := range lists {
		l = append(l, slices.Values(list))
	}
	return l
}

// things are lists with these keys.
func things(lists ...[]uint64) [][]thing {
	var all [][]thing
	for i, ks := range lists {
		var l []thing
		for at, k := range ks {
			l = append(l, thing{k, i, at})
		}
		all = append(all, l)
	}
	return all
}

// strewn are n lists of at most most keys below below, or of any keys, if that is 0; in some the keys rise.
func strewn(n, most int, below uint64, next func() uint64) [][]uint64 {
	all := make([][]uint64, n)
	for i := range all {
		for range next() % uint64(most+1) {
			k := next()
			if below > 0 {
				k %= below
			}
			all[i] = append(all[i], k)
		}
		switch next() % 3 {
		case 0:
			slices.Sort(all[i])
		case 1:
			slices.Sort(all[i])
			all[i] = slices.Compact(all[i])
		}
	}
	return all
}

// some are lists of things of many kinds, few and many.
func some(next func() uint64) [][][]thing {
	all := [][][]thing{
		nil,
		things(nil),
		things(nil, nil, nil),
		things([]uint64{7}),
		things([]uint64{0, top}, []uint64{top, 0}, []uint64{top}, []uint64{0}),
		things([]uint64{5, 5}, []uint64{5, 4}),
		things([]uint64{1, 3, 5}, nil, []uint64{1, 2, 3, 4, 5, 6}),
		things([]uint64{1, 2, 3, 4, 5, 6, 7, 8}, []uint64{9, 9, 9, 9}, []uint64{9, 1, 9, 1}, []uint64{10}),
	}
	for n := 1; n < 12; n++ {
		all = append(all, things(strewn(n, 6, 0, next)...), things(strewn(n, 6, 8, next)...), things(strewn(n, 2, 3, next)...))
	}
	return all
}

// watched is a list that knows how often it was begun, how many things it was asked for, and by how many it is gone through now. Behind its things it goes on for ever, if it has a step; it takes its time to end.
type watched struct {
	things               []thing
	list                 int
	step                 uint64
	begun, asked, atHand atomic.Int64
}

func (w *watched) all(yield func(thing) bool) {
	w.begun.Add(1)
	w.atHand.Add(1)
	defer w.atHand.Add(-1)
	defer linger()
	w.asked.Add(1)
	for i := 0; i < len(w.things) || w.step > 0; i++ {
		if !yield(w.at(i)) {
			return
		}
		w.asked.Add(1)
	}
}

// at is the thing at a place of the list, also behind those that it was given.
func (w *watched) at(i int) thing {
	if i < len(w.things) {
		return w.things[i]
	}
	return thing{uint64(i) * w.step, w.list, i}
}

// linger lets all others run for a while.
func linger() {
	for range 50 {
		runtime.Gosched()
	}
}

// watch are lists that are watched.
func watch(lists [][]thing) ([]*watched, []iter.Seq[thing]) {
	var ws []*watched
	var l []iter.Seq[thing]
	for i, things := range lists {
		w := &watched{list: i, things: things}
		ws = append(ws, w)
		l = append(l, w.all)
	}
	return ws, l
}

// endless are lists that are watched and go on for ever, by these steps; a step of 0 is a list of no things.
func endless(steps ...uint64) ([]*watched, []iter.Seq[thing]) {
	ws, l := watch(make([][]thing, len(steps)))
	for i, s := range steps {
		ws[i].step = s
	}
	return ws, l
}

// cut are the first n things of each of these lists, for plain.
func cut(ws []*watched, n int) [][]thing {
	var all [][]thing
	for _, w := range ws {
		l := slices.Clone(w.things)
		for i := len(l); i < n && w.step > 0; i++ {
			l = append(l, w.at(i))
		}
		all = append(all, l)
	}
	return all
}

// idle fails, if a list is gone through still, or was begun more often than most.
func idle(t *testing.T, ws []*watched, most int64) {
	t.Helper()
	for i, w := range ws {
		if n, b := w.atHand.Load(), w.begun.Load(); n != 0 || b > most {
			t.Fatalf("list %d of %d: %d go through it, it was begun %d times, not %d", i, len(ws), n, b, most)
		}
	}
}

// near fails, if a list was asked for more than two things beyond those that it has passed.
func near(t *testing.T, ws []*watched, passed []int) {
	t.Helper()
	for i, w := range ws {
		if n := int(w.asked.Load()); n > passed[i]+2 {
			t.Fatalf("list %d of %d has passed %d things, and was asked for %d", i, len(ws), passed[i], n)
		}
	}
}

// quiet waits until there are no more goroutines than there were: one that has done its last step may be counted for a moment.
func quiet(t *testing.T, before int) {
	t.Helper()
	for late := time.Now().Add(10 * time.Second); runtime.NumGoroutine() > before; runtime.Gosched() {
		if time.Now().After(late) {
			t.Fatalf("%d goroutines, there were %d", runtime.NumGoroutine(), before)
		}
	}
}

// P17.1, P17.2: the chapter's examples.
func TestExamples(t *testing.T) {
	digits := []iter.Seq[int]{slices.Values([]int{1, 12, 23}), slices.Values([]int{2, 33})}
	for _, x := range []struct {
		most int
		want []int
	}{{2, []int{1, 12}}, {9, []int{1, 12, 23}}, {0, nil}, {-1, nil}} {
		if l := First(x.most, lastDigit, digits...); !slices.Equal(l, x.want) {
			t.Errorf("First(%d, ..) = %v, not %v", x.most, l, x.want)
		}
	}
	if l := First(4, self, count(0, 3), count(0, 2)); !slices.Equal(l, []uint64{0, 2, 3, 4}) {
		t.Errorf("First(4, ..) of lists that never end = %v", l)
	}
	if l := slices.Collect(Join(lastDigit, digits...)); !slices.Equal(l, []int{1, 12, 23}) {
		t.Errorf("Join tells %v", l)
	}
	for _, s := range []iter.Seq[int]{Join(lastDigit), Join(lastDigit, slices.Values([]int{}), slices.Values([]int(nil)))} {
		for x := range s {
			t.Errorf("%d is told of nothing", x)
		}
	}
}

// count goes from a number on by steps, for ever.
func count(from, step uint64) iter.Seq[uint64] {
	return func(yield func(uint64) bool) {
		for n := from; yield(n); n += step {
		}
	}
}

// P17.1, P17.2, P17.5: every few short lists, rising or not, with keys at both ends.
func TestAllShortLists(t *testing.T) {
	var lists [][]uint64
	each([]uint64{0, 1, top}, 2, func(l []uint64) { lists = append(lists, l) })
	hold := func(ks ...[]uint64) {
		l := things(ks...)
		want := toldOf(plain(l))
		if told := slices.Collect(Join(thing.byKey, seqs(l)...)); !slices.Equal(told, want) {
			t.Fatalf("Join of the keys %v: %v, not %v", ks, told, want)
		}
		for most := -1; most < len(want)+2; most++ {
			if told, some := First(most, thing.byKey, seqs(l)...), want[:max(0, min(most, len(want)))]; !slices.Equal(told, some) {
				t.Fatalf("First(%d, ..) of the keys %v: %v, not %v", most, ks, told, some)
			}
		}
	}
	hold()
	for _, a := range lists {
		hold(a)
		for _, b := range lists {
			hold(a, b)
			for _, c := range lists {
				hold(a, b, c)
			}
		}
	}
}

// P17.1, P17.5: few lists and many, with few keys and with any: it is what Merge tells.
func TestLongLists(t *testing.T) {
	next := scatter()
	for n := range 40 {
		for _, below := range []uint64{0, 1, 2, 5, 100, 1 << 32} {
			ks := strewn(n, 20, below, next)
			l := things(ks...)
			told, want := slices.Collect(Join(thing.byKey, seqs(l)...)), toldOf(plain(l))
			if !slices.Equal(told, want) {
				t.Fatalf("Join of the keys %v: %v, not %v", ks, told, want)
			}
			if m := slices.Collect(merge.Merge(thing.byKey, seqs(l)...)); !slices.Equal(told, m) {
				t.Fatalf("Join of the keys %v: %v, Merge tells %v", ks, told, m)
			}
		}
	}
}

// P17.1, P17.4: a great many lists, and one that is as long.
func TestManyLists(t *testing.T) {
	const n = 1 << 12
	next := scatter()
	var ks [][]uint64
	for range n {
		ks = append(ks, []uint64{next() % (2 * n)})
	}
	ks = append(ks, nil)
	for i := range uint64(n) {
		ks[n] = append(ks[n], 3*i)
	}
	l := things(ks...)
	before := runtime.NumGoroutine()
	if told, want := slices.Collect(Join(thing.byKey, seqs(l)...)), slices.Collect(merge.Merge(thing.byKey, seqs(l)...)); !slices.Equal(told, want) {
		t.Errorf("%d things are told, Merge tells %d", len(told), len(want))
	}
	quiet(t, before)
	for range Join(thing.byKey, seqs(l)...) {
		break
	}
	quiet(t, before)
}

// P17.1, P17.2: no lists, lists without things, nil among them, beside such as have some.
func TestNothing(t *testing.T) {
	for name, l := range map[string][]iter.Seq[int]{
		"no lists":        nil,
		"an empty list":   {slices.Values([]int{})},
		"a nil slice":     {slices.Values([]int(nil))},
		"a nil list":      {nil},
		"several of them": {nil, slices.Values([]int{}), nil, slices.Values([]int(nil))},
	} {
		s := Join(lastDigit, l...)
		for range 2 {
			for x := range s {
				t.Errorf("%s: %d is told", name, x)
			}
		}
		for _, most := range []int{math.MinInt, -1, 0, 1, 2, math.MaxInt} {
			if f := First(most, lastDigit, l...); len(f) != 0 {
				t.Errorf("%s: First(%d, ..) = %v", name, most, f)
			}
		}
		beside := slices.Concat(l, []iter.Seq[int]{slices.Values([]int{4, 25})}, l)
		if got := slices.Collect(Join(lastDigit, beside...)); !slices.Equal(got, []int{4, 25}) {
			t.Errorf("%s, and 4, 25 between: %v", name, got)
		}
	}
}

// P17.1, P17.2: things of more than one type.
func TestTypes(t *testing.T) {
	entries := func(l ...api.Entry) iter.Seq[api.Entry] { return slices.Values(l) }
	byKey := func(e api.Entry) uint64 { return e.Key }
	newer := entries(api.Entry{Key: 1, Value: 10}, api.Entry{Key: 3, Gone: true})
	older := entries(api.Entry{Key: 1, Value: 11}, api.Entry{Key: 2, Value: 22}, api.Entry{Key: 3, Value: 33})
	want := []api.Entry{{Key: 1, Value: 10}, {Key: 2, Value: 22}, {Key: 3, Gone: true}}
	if l := slices.Collect(Join(byKey, newer, older)); !slices.Equal(l, want) {
		t.Errorf("entries: %v", l)
	}
	if l := First(2, byKey, newer, older); !slices.Equal(l, want[:2]) {
		t.Errorf("the first two entries: %v", l)
	}
	length := func(s string) uint64 { return uint64(len(s)) }
	if l := First(3, length, slices.Values([]string{"", "ab", "abcd"}), slices.Values([]string{"x", "xy", "xyz"})); !slices.Equal(l, []string{"", "x", "ab"}) {
		t.Errorf("texts: %q", l)
	}
	n1, n2, n3 := new(uint64(1)), new(uint64(2)), new(uint64(1))
	at := func(p *uint64) uint64 { return *p }
	if l := slices.Collect(Join(at, slices.Values([]*uint64{n1, n2}), slices.Values([]*uint64{n3}))); !slices.Equal(l, []*uint64{n1, n2}) {
		t.Errorf("pointers: %v", l)
	}
	nothing := func(struct{}) uint64 { return 5 }
	if l := First(9, nothing, slices.Values(make([]struct{}, 3)), slices.Values(make([]struct{}, 2))); len(l) != 3 {
		t.Errorf("things of no size: %d", len(l))
	}
	all := func(any) uint64 { return 0 }
	if l := First(9, all, slices.Values([]any{nil, "a"}), slices.Values([]any{3})); !slices.Equal(l, []any{nil, "a"}) {
		t.Errorf("interfaces: %v", l)
	}
}

// P17.1, P17.4: a range that is left at any thing tells no more, and no list is gone through any more; another one begins anew.
func TestLeft(t *testing.T) {
	next := scatter()
	for _, lists := range some(next) {
		want := toldOf(plain(lists))
		before := runtime.NumGoroutine()
		ws, l := watch(lists)
		s := Join(thing.byKey, l...)
		idle(t, ws, 0)
		for at := range len(want) + 1 {
			var told []thing
			for x := range s {
				told = append(told, x)
				if len(told) == at+1 {
					break
				}
			}
			idle(t, ws, int64(at+1))
			if !slices.Equal(told, want[:min(at+1, len(want))]) {
				t.Fatalf("left behind %d: %v, not the first of %v", at+1, told, want)
			}
		}
		quiet(t, before)
	}
}

// P17.1: what asks for things itself is asked no more once it has answered false.
func TestToldNoMore(t *testing.T) {
	for at := 1; at < 5; at++ {
		calls := 0
		Join(self, count(0, 2), count(1, 2))(func(uint64) bool {
			calls++
			return calls < at
		})
		if calls != at {
			t.Errorf("asked %d times, not %d", calls, at)
		}
	}
}

// P17.4: a range that is left by a panic, or by the end of its goroutine, leaves nothing behind either.
func TestLeftOtherwise(t *testing.T) {
	before := runtime.NumGoroutine()
	for _, leave := range []func(){func() { panic("left") }, runtime.Goexit} {
		ws, l := endless(3, 5, 0)
		var out sync.WaitGroup
		out.Add(1)
		go func() {
			defer out.Done()
			defer func() { recover() }()
			for x := range Join(thing.byKey, l...) {
				if x.key == 5 {
					leave()
				}
			}
		}()
		out.Wait()
		idle(t, ws, 1)
	}
	quiet(t, before)
}

// P17.1: another range within one that is at hand, at any thing of it, and that one goes on as if there were none.
func TestWithin(t *testing.T) {
	next := scatter()
	for _, lists := range some(next)[:24] {
		want := toldOf(plain(lists))
		ws, l := watch(lists)
		s := Join(thing.byKey, l...)
		var told []thing
		for x := range s {
			told = append(told, x)
			if in := slices.Collect(s); !slices.Equal(in, want) {
				t.Fatalf("within, at %v: %v, not %v", x, in, want)
			}
			for y := range s {
				if y == x {
					break
				}
			}
		}
		if !slices.Equal(told, want) {
			t.Fatalf("about others: %v, not %v", told, want)
		}
		idle(t, ws, int64(2*len(want)+1))
	}
}

// P17.1: two ranges that go on by turns.
func TestByTurns(t *testing.T) {
	next := scatter()
	for _, lists := range some(next) {
		want := toldOf(plain(lists))
		ws, l := watch(lists)
		s := Join(thing.byKey, l...)
		a, stopA := iter.Pull(s)
		b, stopB := iter.Pull(s)
		for i, x := range want {
			if y, ok := a(); y != x || !ok {
				t.Fatalf("the first one's thing %d: %v, %v, not %v", i, y, ok, x)
			}
			if i%2 == 1 {
				continue
			}
			if y, ok := b(); y != want[i/2] || !ok {
				t.Fatalf("the second one's thing %d: %v, %v, not %v", i/2, y, ok, want[i/2])
			}
		}
		stopB()
		stopA()
		idle(t, ws, 2)
	}
}

// P17.1: many go through one answer at the same time, and each is told all.
func TestManyAtATime(t *testing.T) {
	l := things(strewn(6, 40, 100, scatter())...)
	want := toldOf(plain(l))
	s := Join(thing.byKey, seqs(l)...)
	var all sync.WaitGroup
	for range 8 {
		all.Add(1)
		go func() {
			defer all.Done()
			for range 5 {
				if told := slices.Collect(s); !slices.Equal(told, want) {
					t.Errorf("%v, not %v", told, want)
				}
			}
		}()
	}
	all.Wait()
}

// P17.1: what Join gives is a list itself, and may be handed to Join.
func TestJoinOfJoins(t *testing.T) {
	before := runtime.NumGoroutine()
	ws, l := endless(2, 3, 5, 7)
	pairs := Join(thing.byKey, Join(thing.byKey, l[:2]...), Join(thing.byKey, l[2:]...))
	var told []thing
	for x := range pairs {
		if told = append(told, x); len(told) == 200 {
			break
		}
	}
	idle(t, ws, 1)
	if want := toldOf(plain(cut(ws, 400)))[:200]; !slices.Equal(told, want) {
		t.Errorf("%v, not %v", told, want)
	}
	quiet(t, before)
}

// P17.2, P17.5: First with every most: as many as that, a beginning of what Join tells, in new memory.
func TestFirst(t *testing.T) {
	next := scatter()
	for _, lists := range some(next) {
		want := toldOf(plain(lists))
		before := runtime.NumGoroutine()
		mosts := []int{math.MinInt, -2, math.MaxInt}
		for most := -1; most < len(want)+3; most++ {
			mosts = append(mosts, most)
		}
		for _, most := range mosts {
			ws, l := watch(lists)
			first := First(most, thing.byKey, l...)
			idle(t, ws, 1)
			if some := want[:max(0, min(most, len(want)))]; !slices.Equal(first, some) {
				t.Fatalf("First(%d, ..) = %v, not %v", most, first, some)
			}
			if most < 1 {
				idle(t, ws, 0)
			}
			clear(first[:cap(first)]) // no list may know it
			if again := First(most, thing.byKey, l...); !slices.Equal(again, want[:max(0, min(most, len(want)))]) {
				t.Fatalf("First(%d, ..) once more = %v", most, again)
			}
		}
		quiet(t, before)
	}
}

// P17.3: whenever a thing is told, and for however long it is at hand, no list was begun twice, or asked for more than two things beyond those that it has passed.
func TestNotFarAhead(t *testing.T) {
	next := scatter()
	for n, lists := range some(next) {
		t.Run(strconv.Itoa(n), func(t *testing.T) {
			synctest.Test(t, func(t *testing.T) { // it ends only when all goroutines have
				ws, l := watch(lists)
				steps := plain(lists)
				at := 0
				for x := range Join(thing.byKey, l...) {
					near(t, ws, steps[at].passed)
					synctest.Wait() // until all others can do nothing more
					near(t, ws, steps[at].passed)
					if x != steps[at].told {
						t.Fatalf("%v is told, not %v", x, steps[at].told)
					}
					at++
				}
				idle(t, ws, 1)
			})
		})
	}
}

// P17.3: the same of lists that never end, and of such among lists that do, however slow whoever takes the things is.
func TestNotFarAheadForEver(t *testing.T) {
	for _, steps := range [][]uint64{{1}, {3, 2}, {1, 1, 1}, {1, 1000}, {0, 7, 0, 11, 4}} {
		synctest.Test(t, func(t *testing.T) {
			ws, l := endless(steps...)
			want := plain(cut(ws, 500))
			at := 0
			for x := range Join(thing.byKey, l...) {
				time.Sleep(time.Hour) // of the test's own clock
				synctest.Wait()
				near(t, ws, want[at].passed)
				if x != want[at].told {
					t.Fatalf("%v is told, not %v", x, want[at].told)
				}
				if at++; at == 300 {
					break
				}
			}
			idle(t, ws, 1)
		})
	}
}

// P17.3: First asks no list for more than two things beyond those that it has passed when the last thing is told.
func TestFirstNotFarAhead(t *testing.T) {
	for most := 1; most < 60; most++ {
		ws, l := endless(3, 2, 1000, 0)
		steps := plain(cut(ws, 200))
		if told := First(most, thing.byKey, l...); !slices.Equal(told, toldOf(steps)[:most]) {
			t.Fatalf("First(%d, ..) = %v", most, told)
		}
		near(t, ws, steps[most-1].passed)
		idle(t, ws, 1)
	}
}

// P17.3: with a most below 1 no list is gone through, and none is by Join itself, either, until it is ranged over.
func TestNotBegun(t *testing.T) {
	ws, l := endless(3, 2)
	for _, most := range []int{0, -1, -1000, math.MinInt} {
		if told := First(most, thing.byKey, l...); len(told) != 0 {
			t.Errorf("First(%d, ..) = %v", most, told)
		}
	}
	s := Join(thing.byKey, l...)
	linger()
	idle(t, ws, 0)
	for range s {
		break
	}
	idle(t, ws, 1)
}

// P17.4: when a range is over, or was left, and when First answers, all goroutines have ended.
func TestNothingIsLeft(t *testing.T) {
	for range 200 {
		before := runtime.NumGoroutine()
		ws, l := endless(3, 2, 0, 5)
		First(7, thing.byKey, l...)
		idle(t, ws, 1)
		quiet(t, before)
		for range Join(thing.byKey, l...) {
			break
		}
		idle(t, ws, 2)
		quiet(t, before)
		ended, m := watch(things([]uint64{1, 2}, []uint64{2, 3, 4}, nil))
		for range Join(thing.byKey, m...) {
		}
		idle(t, ended, 1)
		quiet(t, before)
	}
}

// P17.6: of lists that never end, and of one among others, First gives as many things as most says.
func TestForEver(t *testing.T) {
	for _, steps := range [][]uint64{{1}, {5, 5}, {3, 2}, {0, 2, 0}, {1, 10, 100, 1000}} {
		for _, most := range []int{1, 2, 3, 100, 5000} {
			ws, l := endless(steps...)
			told := First(most, thing.byKey, l...)
			idle(t, ws, 1)
			if want := toldOf(plain(cut(ws, most))); !slices.Equal(told, want[:most]) {
				t.Fatalf("First(%d, ..) of the steps %v: %d things, not the first of %d", most, steps, len(told), len(want))
			}
		}
	}
	same := func(uint64) uint64 { return 9 }
	if l := First(1000, same, count(0, 1), count(5, 0)); len(l) != 1000 || l[999] != 999 {
		t.Errorf("of one key alone: %d things", len(l))
	}
	if l := First(6, self, slices.Values([]uint64{1, 4}), count(3, 0), slices.Values([]uint64{2})); !slices.Equal(l, []uint64{1, 2, 3, 3, 3, 3}) {
		t.Errorf("of 3 for ever, ahead of 4: %v", l)
	}
}

// A list is gone through by one goroutine at a time, and none beside whoever takes the things: also one that is handed in twice, and in a range within another.
func TestOneAtATime(t *testing.T) {
	var running atomic.Int64
	enter := func() {
		if !running.CompareAndSwap(0, 1) {
			t.Error("another one runs")
		}
	}
	leave := func() { linger(); running.Store(0) }
	list := func(yield func(uint64) bool) {
		enter()
		defer leave()
		for n := uint64(0); n < 20; n++ {
			leave()
			more := yield(n)
			enter()
			if !more {
				return
			}
		}
	}
	s := Join(self, list, list, list)
	for x := range s {
		enter()
		leave()
		for y := range s {
			enter()
			leave()
			if y == x {
				break
			}
		}
	}
	enter()
}

// R4: the lists that are handed in are not kept: what becomes of them behind the call shows in no range.
func TestListsAreNotKept(t *testing.T) {
	l := []iter.Seq[uint64]{slices.Values([]uint64{1, 2}), slices.Values([]uint64{2, 3})}
	room := append(slices.Clone(l), slices.Values([]uint64{0}))[:2]
	s := Join(self, room...)
	room[0], room[1] = nil, slices.Values([]uint64{8, 9})
	if told := slices.Collect(s); !slices.Equal(told, []uint64{1, 2, 3}) {
		t.Errorf("behind a change of the lists: %v", told)
	}
	for range s {
		room[0] = slices.Values([]uint64{7})
	}
	if told := First(9, self, room...); !slices.Equal(told, []uint64{7, 8, 9}) || room[:3][2] == nil {
		t.Errorf("of the others: %v", told)
	}
}

// R8: what is told hangs on no schedule.
func TestNoSchedule(t *testing.T) {
	l := things(strewn(9, 30, 20, scatter())...)
	want := toldOf(plain(l))
	for _, procs := range []int{1, 2, 8} {
		before := runtime.GOMAXPROCS(procs)
		for range 20 {
			if told := slices.Collect(Join(thing.byKey, seqs(l)...)); !slices.Equal(told, want) {
				t.Errorf("%v, not %v", told, want)
			}
		}
		runtime.GOMAXPROCS(before)
	}
}
