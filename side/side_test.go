package side

import (
	"maps"
	"math"
	"runtime"
	"slices"
	"strings"
	"testing"
	"testing/synctest"
	"time"

	"incline/api"
	"incline/ask"
	"incline/run"
	"incline/tower"
)

const top = math.MaxUint64

// wrongKinds are those that there are not: operations of these are questions.
var wrongKinds = []int{9, 8, 0, -1, -2, 10, 1 << 8, 1<<8 + 1, 1<<16 + 2, 1<<32 + 1, 1<<32 + 2, math.MaxInt, math.MinInt, math.MinInt + 1}

// wrongWorkers are numbers of workers that may not be.
var wrongWorkers = []int{0, 17, -1, -16, 18, 1 << 8, 1<<8 + 1, 1 << 16, 1<<16 + 3, 1<<32 + 1, 1<<32 + 16, math.MaxInt, math.MinInt, math.MinInt + 1}

// scatter gives words without a pattern, always the same ones.
func scatter() func() uint64 {
	x := uint64(0x9e3779b97f4a7c15)
	return func() uint64 {
		x ^= x << 13
		x ^= x >> 7
		x ^= x << 17
		return x
	}
}

func get(key uint64) api.Op { return api.Op{Kind: api.OpGet, Key: key} }

func floor(key uint64) api.Op { return api.Op{Kind: api.OpFloor, Key: key} }

func ceil(key uint64) api.Op { return api.Op{Kind: api.OpCeil, Key: key} }

func rank(key uint64) api.Op { return api.Op{Kind: api.OpRank, Key: key} }

func span(from, to uint64) api.Op { return api.Op{Kind: api.OpRange, Key: from, Value: to} }

func list(l ...api.Op) []api.Op { return l }

// plain is the plain map. All that it is asked it answers by going through all keys.
type plain map[uint64]uint64

// do is what the plain map answers to a question.
func (p plain) do(o api.Op) api.Answer {
	var below, above []api.Pair // those that are not above, and not below
	var a api.Answer
	for _, k := range slices.Sorted(maps.Keys(p)) {
		x := api.Pair{Key: k, Value: p[k]}
		if k <= o.Key {
			below = append(below, x)
		}
		if k >= o.Key {
			above = append(above, x)
		}
		if k < o.Key && o.Kind == api.OpRank {
			a.Num++
		}
		if k >= o.Key && k <= o.Value && o.Kind == api.OpRange {
			a.List = append(a.List, x)
		}
	}
	v, is := p[o.Key]
	switch {
	case o.Kind == api.OpGet:
		return api.Answer{Is: is, Value: v}
	case o.Kind == api.OpFloor && len(below) > 0:
		x := below[len(below)-1]
		return api.Answer{Is: true, Key: x.Key, Value: x.Value}
	case o.Kind == api.OpCeil && len(above) > 0:
		return api.Answer{Is: true, Key: above[0].Key, Value: above[0].Value}
	case o.Kind < api.OpGet || o.Kind > api.OpRange:
		return api.Answer{Code: api.ErrArg}
	}
	return a
}

func same(a, b api.Answer) bool {
	lists := slices.Equal(a.List, b.List)
	return lists && a.Code == b.Code && a.Is == b.Is && a.Key == b.Key && a.Value == b.Value && a.Num == b.Num
}

// alone is what ask.Do answers to each question by itself.
func alone(x *tower.Tower, l []api.Op) []api.Answer {
	var answers []api.Answer
	for _, o := range l {
		answers = append(answers, ask.Do(x, o))
	}
	return answers
}

// firstOf is the number of the first answer that has Is; -1: none has.
func firstOf(answers []api.Answer) int {
	for i, a := range answers {
		if a.Is {
			return i
		}
	}
	return -1
}

// made is a tower without keys.
func made(t *testing.T, buf int) *tower.Tower {
	t.Helper()
	x, err := tower.New(api.Config{Eps: 2, Buf: buf, Keys: 1 << 20})
	if x == nil || err != api.OK {
		t.Fatal(err)
	}
	return x
}

// filled is a tower to which all keys are put, one by one, each with ten times its key as value, with the plain map that it is.
func filled(t *testing.T, buf int, keys ...uint64) (*tower.Tower, plain) {
	t.Helper()
	x, p := made(t, buf), plain{}
	for _, k := range keys {
		if err := x.Put(k, 10*k); err != api.OK {
			t.Fatal(err)
		}
		p[k] = 10 * k
	}
	return x, p
}

func deletes(t *testing.T, x *tower.Tower, p plain, keys ...uint64) {
	t.Helper()
	for _, k := range keys {
		if !x.Delete(k) {
			t.Fatalf("%d is not live", k)
		}
		delete(p, k)
	}
}

// sizes fails, unless a tower has so many entries in its buffer and in the runs of its classes.
func sizes(t *testing.T, x *tower.Tower, buffered int, l ...int) {
	t.Helper()
	if s := x.Stats(); s.Buffered != buffered || !slices.Equal(s.Sizes, l) {
		t.Fatalf("%d in the buffer, %v in the runs: not %d, %v", s.Buffered, s.Sizes, buffered, l)
	}
}

// six is the tower of the chapter's examples.
func six(t *testing.T) (*tower.Tower, plain) {
	t.Helper()
	x, p := filled(t, 4, 1, 2, 3, 4)
	deletes(t, x, p, 2)
	for _, k := range []uint64{5, 6, 7} {
		x.Put(k, 10*k)
		p[k] = 10 * k
	}
	sizes(t, x, 0, 0, 6)
	return x, p
}

// where are towers whose keys lie nowhere, in the buffer, in one run, in several, in both; with tombstones of live keys over them, and without.
func where(t *testing.T, do func(*tower.Tower, plain)) {
	t.Helper()
	do(made(t, 3), plain{})
	x, p := filled(t, 9, 5, 0, 9, top)
	sizes(t, x, 4)
	do(x, p)
	x, p = filled(t, 4, 5, 0, 9, top)
	sizes(t, x, 0, 4)
	do(x, p)
	x, p = filled(t, 1, 4, 8, 6, 2, 5, 7, 3)
	sizes(t, x, 0, 1, 2, 4)
	do(x, p)
	x, p = filled(t, 2, 4, 8, 6, 2, 5, 7, top)
	sizes(t, x, 1, 2, 4)
	do(x, p)
	deletes(t, x, p, 8, 4, top)
	do(x, p)
	x, p = filled(t, 8, 4, 8, 6, 2, 5, 7, 3, 0)
	deletes(t, x, p, 4, 8, 6, 2, 5, 7, 3)
	sizes(t, x, 7, 8)
	do(x, p)
	deletes(t, x, p, 0)
	sizes(t, x, 0)
	do(x, p)
}

// state is all that a tower tells of itself.
type state struct {
	config api.Config
	stats  api.Stats
	buffer []api.Entry
	runs   []*run.Run
}

func stateOf(x *tower.Tower) state { return state{x.Config(), x.Stats(), x.Buffer(), x.Runs()} }

// holds fails, unless a tower is as it was.
func (s state) holds(t *testing.T, x *tower.Tower) {
	t.Helper()
	a, b := s.stats, x.Stats()
	if a.Live != b.Live || a.Buffered != b.Buffered || a.Builds != b.Builds || a.Written != b.Written || !slices.Equal(a.Sizes, b.Sizes) {
		t.Fatalf("the tower has changed: %v, not %v", b, a)
	}
	if s.config != x.Config() || !slices.Equal(s.buffer, x.Buffer()) || !slices.Equal(s.runs, x.Runs()) {
		t.Fatalf("the tower has changed: %v, not %v, or other runs", x.Buffer(), s.buffer)
	}
}

// everything are questions of every kind, and of kinds that are none, about all keys that some tower here has.
func everything() []api.Op {
	var l []api.Op
	for _, k := range []uint64{0, 1, 2, 4, 5, 8, 9, 10, 1 << 63, top - 1, top} {
		for kind := api.OpGet; kind <= api.OpRange+1; kind++ {
			l = append(l, api.Op{Kind: kind, Key: k, Value: k + 3}, api.Op{Kind: kind, Key: k, Value: top})
		}
	}
	for i, kind := range wrongKinds {
		l = append(l, api.Op{Kind: kind, Key: uint64(i), Value: 7})
	}
	return l
}

// strewn are n questions without a pattern, of all kinds.
func strewn(n int, next func() uint64) []api.Op {
	var l []api.Op
	for range n {
		o := api.Op{Kind: api.OpGet + int(next()>>8%6), Key: next() >> 8 % 12, Value: next() >> 8 % 12}
		if next()>>8%5 == 0 {
			o.Key = top - o.Key
		}
		l = append(l, o)
	}
	return l
}

// answered fails, unless Ask answers so, and First tells what follows of it, and the tower is left as it is.
func answered(t *testing.T, x *tower.Tower, l []api.Op, workers int, want []api.Answer) {
	t.Helper()
	ahead := stateOf(x)
	got, err := Ask(x, l, workers)
	if err != api.OK || !slices.EqualFunc(got, want, same) {
		t.Fatalf("Ask(%v; %d workers): %v, %d, not %v", l, workers, got, err, want)
	}
	ahead.holds(t, x)
	if n, err := First(x, l, workers); n != firstOf(want) || err != api.OK {
		t.Fatalf("First(%v; %d workers): %d, %d, not %d", l, workers, n, err, firstOf(want))
	}
	ahead.holds(t, x)
}

// refused fails, unless both calls answer ErrArg, nothing else, and do nothing to the tower.
func refused(t *testing.T, x *tower.Tower, l []api.Op, workers int) {
	t.Helper()
	ahead := stateOf(x)
	if a, err := Ask(x, l, workers); len(a) != 0 || err != api.ErrArg {
		t.Fatalf("Ask(%v; %d workers): %v, %d", l, workers, a, err)
	}
	if n, err := First(x, l, workers); n != 0 || err != api.ErrArg {
		t.Fatalf("First(%v; %d workers): %d, %d", l, workers, n, err)
	}
	ahead.holds(t, x)
}

// quiet waits until there are no more goroutines than there were: one that has done its last step may be counted for a moment.
func quiet(t *testing.T, before int) {
	t.Helper()
	for late := time.Now().Add(10 * time.Second); runtime.NumGoroutine() > before; runtime.Gosched() {
		if time.Now().After(late) {
			t.Fatalf("%d goroutines, there were %d", runtime.NumGoroutine(), before)
		}
	}
}

// noneAsks fails, if some goroutine is in the midst of a question: a worker that has done its last step is not.
func noneAsks(t *testing.T) {
	t.Helper()
	text := make([]byte, 1<<20)
	if stacks := string(text[:runtime.Stack(text, true)]); strings.Contains(stacks, "incline/ask.Do") {
		t.Fatalf("a question is still asked:\n%s", stacks)
	}
}

// P19.1, P19.2: the chapter's examples.
func TestExamples(t *testing.T) {
	x, _ := six(t)
	a, err := Ask(x, list(get(3), get(2), floor(2), rank(5)), 3)
	want := []api.Answer{{Is: true, Value: 30}, {}, {Is: true, Key: 1, Value: 10}, {Num: 3}}
	if err != api.OK || !slices.EqualFunc(a, want, same) {
		t.Errorf("Ask: %v, %d", a, err)
	}
	for _, y := range []struct {
		l       []api.Op
		workers int
		want    int
	}{
		{list(get(2), rank(5), get(9), ceil(6), get(1)), 2, 3},
		{list(get(2), get(8)), 1, -1},
		{nil, 16, -1},
	} {
		if n, err := First(x, y.l, y.workers); n != y.want || err != api.OK {
			t.Errorf("First(%v; %d workers): %d, %d", y.l, y.workers, n, err)
		}
	}
	refused(t, x, list(api.Op{Kind: api.OpPut, Key: 9}), 1)
	refused(t, x, nil, 0)
	refused(t, x, list(get(3)), 17)
	if a, err := Ask(x, list(api.Op{Kind: 9}), 2); err != api.OK || len(a) != 1 || !same(a[0], api.Answer{Code: api.ErrArg}) {
		t.Errorf("Ask of the kind 9: %v, %d", a, err)
	}
}

// P19.1, P19.2, P19.4, P19.5, T1, T6: questions of every kind, to towers whose keys lie anywhere, by every number of workers: as ask.Do and the plain map answer.
func TestEveryNumberOfWorkers(t *testing.T) {
	l, next := everything(), scatter()
	where(t, func(x *tower.Tower, p plain) {
		t.Helper()
		for _, l := range [][]api.Op{l, strewn(100, next)} {
			want := alone(x.Clone(), l)
			for i, o := range l {
				if !same(want[i], p.do(o)) {
					t.Fatalf("Do(%v) of %v: %v", o, p, want[i])
				}
			}
			for workers := 1; workers <= 16; workers++ {
				answered(t, x, l, workers, want)
			}
		}
	})
}

// P19.1, P19.2: no question, one, fewer than workers, as many, one more, and many more.
func TestNumbersOfQuestions(t *testing.T) {
	x, _ := six(t)
	next := scatter()
	for workers := 1; workers <= 16; workers++ {
		for _, n := range []int{0, 1, workers - 1, workers, workers + 1, 2 * workers, 10*workers + 3, 500} {
			l := strewn(n, next)
			answered(t, x, l, workers, alone(x, l))
		}
		for _, none := range [][]api.Op{nil, {}, list(get(3))[:0]} {
			if a, err := Ask(x, none, workers); len(a) != 0 || err != api.OK {
				t.Errorf("Ask of no question: %v, %d", a, err)
			}
			if n, err := First(x, none, workers); n != -1 || err != api.OK {
				t.Errorf("First of no question: %d, %d", n, err)
			}
		}
		for _, o := range everything() {
			answered(t, x, list(o), workers, alone(x, list(o)))
		}
	}
}

// P19.1: an operation of a kind that is none is a question: its answer has the Code ErrArg, and nothing else; it stops nothing.
func TestKindsThatAreNone(t *testing.T) {
	x, _ := six(t)
	for _, kind := range wrongKinds {
		for _, workers := range []int{1, 2, 3, 16} {
			none := api.Op{Kind: kind, Key: 3, Value: 7}
			l := list(none, get(3), none, none, rank(5), none)
			no := api.Answer{Code: api.ErrArg}
			answered(t, x, l, workers, []api.Answer{no, {Is: true, Value: 30}, no, no, {Num: 3}, no})
			answered(t, x, list(none, none), workers, []api.Answer{no, no})
		}
	}
}

// P19.1, P19.2: numbers of workers that may not be, with questions, without, and with operations that are none.
func TestWrongWorkers(t *testing.T) {
	x, _ := six(t)
	for _, workers := range wrongWorkers {
		for _, l := range [][]api.Op{nil, {}, list(get(3)), list(get(2)), everything(), list(api.Op{Kind: api.OpPut, Key: 9}), list(get(3), api.Op{Kind: api.OpDelete, Key: 3})} {
			refused(t, x, l, workers)
		}
	}
}

// P19.1, P19.2: a put or a delete as the first, the last and every other operation: nothing is done to the tower, whatever stands ahead of it.
func TestNoQuestion(t *testing.T) {
	where(t, func(x *tower.Tower, p plain) {
		t.Helper()
		for _, o := range []api.Op{{Kind: api.OpPut, Key: 5, Value: 1}, {Kind: api.OpPut, Key: 77}, {Kind: api.OpDelete, Key: 5}, {Kind: api.OpDelete, Key: 77}} {
			for n := range 20 {
				l := strewn(20, scatter())
				l[n] = o
				for _, workers := range []int{1, 2, 16} {
					refused(t, x, l, workers)
					refused(t, x, l[:n+1], workers)
				}
			}
			refused(t, x, list(o), 1)
			refused(t, x, list(o, o, o), 16)
			refused(t, x, list(get(0), ceil(0), o), 2)
		}
	})
}

// P19.2, P19.5: every row of up to seven questions of which some have Is, by few workers, as many and more.
func TestFirstOfAllShortRows(t *testing.T) {
	x, _ := six(t)
	for n := range 8 {
		for bits := range 1 << n {
			var l []api.Op
			want := -1
			for i := range n {
				o := []api.Op{get(2), rank(5), span(0, top), floor(0), ceil(8), {Kind: 9, Key: 3}}[i%6]
				if bits>>i&1 == 1 {
					o = []api.Op{get(3), floor(9), ceil(0)}[i%3]
					if want < 0 {
						want = i
					}
				}
				l = append(l, o)
			}
			for _, workers := range []int{1, 2, 3, 7, 16} {
				if got, err := First(x, l, workers); got != want || err != api.OK {
					t.Fatalf("First(%v; %d workers): %d, %d, not %d", l, workers, got, err, want)
				}
			}
		}
	}
}

// P19.2, P19.5: of many questions the first, only the last, several, each single one, or none has Is.
func TestFirstOfMany(t *testing.T) {
	x, _ := six(t)
	for _, workers := range []int{1, 2, 5, 16} {
		for n := range 60 {
			l := slices.Repeat(list(get(2)), 60)
			if got, err := First(x, l, workers); got != -1 || err != api.OK {
				t.Fatalf("of none: %d, %d", got, err)
			}
			for _, behind := range []int{n, n + 1, 59} { // that one alone, the next one too, all that are behind it
				for i := n; i <= min(behind, 59); i++ {
					l[i] = []api.Op{get(1), floor(2), ceil(2)}[i%3]
				}
				if got, err := First(x, l, workers); got != n || err != api.OK {
					t.Fatalf("%d workers, from %d to %d: %d, %d", workers, n, behind, got, err)
				}
			}
		}
	}
}

// P19.2: Is is never true of OpRank and OpRange, nor of a kind that is none.
func TestFirstOfRankAndRange(t *testing.T) {
	where(t, func(x *tower.Tower, p plain) {
		t.Helper()
		var l []api.Op
		for _, k := range []uint64{0, 1, 5, 9, top} {
			l = append(l, rank(k), span(0, k), span(k, top), api.Op{Kind: 8, Key: k})
		}
		for workers := 1; workers <= 16; workers++ {
			if n, err := First(x, l, workers); n != -1 || err != api.OK {
				t.Fatalf("%d workers: %d, %d", workers, n, err)
			}
		}
	})
}

// slow is a tower of which a question takes long: behind 0 and ahead of 2^63 there are tombstones alone.
func slow(t *testing.T, n uint64) *tower.Tower {
	t.Helper()
	x := made(t, 1<<16)
	for k := range n {
		x.Put(k, k)
	}
	x.Put(1<<63, 7)
	for k := range n {
		if k > 0 {
			x.Delete(k)
		}
	}
	return x
}

// P19.2: the first is told, also where those behind it are found far sooner.
func TestFirstIsSlow(t *testing.T) {
	x := slow(t, 3000)
	for _, late := range []api.Op{floor(1<<63 - 1), ceil(1)} {
		for _, workers := range []int{1, 2, 3, 16} {
			for range 5 {
				l := append(list(get(1), late), slices.Repeat(list(get(0)), 20)...)
				if n, err := First(x, l, workers); n != 1 || err != api.OK {
					t.Fatalf("First(%v ..; %d workers): %d, %d", l[:3], workers, n, err)
				}
			}
		}
	}
}

// P19.2: where one has found a key, the questions behind it are not all asked: what they would lay into memory is not laid there.
func TestFirstLeavesTheRest(t *testing.T) {
	x, _ := six(t)
	l := append(list(get(3)), slices.Repeat(list(span(0, top)), 4000)...)
	for _, workers := range []int{1, 2, 16} {
		pieces := testing.AllocsPerRun(1, func() { First(x, l, workers) })
		if all := testing.AllocsPerRun(1, func() { Ask(x, l, workers) }); pieces > all/2 {
			t.Errorf("%d workers: %v pieces of memory; all questions take %v", workers, pieces, all)
		}
	}
}

// P19.4: Ask of two lists put together answers what it answers to the one, and behind that what it answers to the other.
func TestTogether(t *testing.T) {
	next := scatter()
	where(t, func(x *tower.Tower, p plain) {
		t.Helper()
		for _, workers := range []int{1, 2, 7, 16} {
			for _, n := range []int{0, 1, 5, 40} {
				for _, m := range []int{0, 1, 5, 40} {
					one, other := strewn(n, next), strewn(m, next)
					a, errA := Ask(x, one, workers)
					b, errB := Ask(x, other, 17-workers)
					both, err := Ask(x, slices.Concat(one, other), workers)
					if errA != api.OK || errB != api.OK || err != api.OK || !slices.EqualFunc(both, slices.Concat(a, b), same) {
						t.Fatalf("%v, %v: %v, not %v, %v", one, other, both, a, b)
					}
				}
			}
		}
	})
}

// P19.5: where First tells a number, that question's answer in Ask has Is, and none ahead of it; where it tells -1, none has.
func TestFirstAgainstAsk(t *testing.T) {
	next := scatter()
	where(t, func(x *tower.Tower, p plain) {
		t.Helper()
		for i := range 120 {
			l, workers := strewn(i%30, next), 1+i%16
			a, err := Ask(x, l, 1+int(next()>>8%16))
			if err != api.OK || len(a) != len(l) {
				t.Fatalf("%d answers, %d", len(a), err)
			}
			n, err := First(x, l, workers)
			if err != api.OK || n < -1 || n >= len(l) {
				t.Fatalf("First(%v): %d, %d", l, n, err)
			}
			ahead := a
			if n >= 0 {
				ahead = a[:n]
				if !a[n].Is {
					t.Fatalf("First(%v): %d, whose answer is %v", l, n, a[n])
				}
			}
			if m := firstOf(ahead); m >= 0 {
				t.Fatalf("First(%v): %d, but %d has Is", l, n, m)
			}
		}
	})
}

// P19.3: behind calls a tower is asked, and changed, as one that nobody asked; what is asked behind a change shows it.
func TestTowerGoesOn(t *testing.T) {
	next, l := scatter(), everything()
	for _, buf := range []int{1, 2, 3, 30} {
		x, y := made(t, buf), made(t, buf)
		for range 40 {
			k, v := next()>>8%11, next()
			if next()>>8%3 == 0 {
				if x.Delete(k) != y.Delete(k) {
					t.Fatalf("a delete of %d", k)
				}
			} else if x.Put(k, v) != y.Put(k, v) {
				t.Fatalf("a put of %d", k)
			}
			answered(t, x, l, 1+int(next()>>8%16), alone(y, l))
			a, b := x.Stats(), y.Stats()
			if a.Live != b.Live || a.Buffered != b.Buffered || a.Builds != b.Builds || a.Written != b.Written || !slices.Equal(a.Sizes, b.Sizes) || !slices.Equal(x.Buffer(), y.Buffer()) {
				t.Fatalf("%v, not %v", a, b)
			}
		}
	}
}

// P19.3, R8: all goroutines have ended, whatever was asked, refused, or found early.
func TestNoGoroutineLeft(t *testing.T) {
	x, _ := six(t)
	before := runtime.NumGoroutine()
	for workers := range 18 {
		for _, l := range [][]api.Op{
			nil, list(get(2)), list(get(3)), everything(),
			slices.Repeat(list(get(2)), 50), slices.Repeat(list(get(3)), 50),
			append(list(get(3)), slices.Repeat(list(span(0, top)), 50)...),
			list(get(3), api.Op{Kind: api.OpPut}),
		} {
			Ask(x, l, workers)
			noneAsks(t)
			quiet(t, before)
			First(x, l, workers)
			noneAsks(t)
			quiet(t, before)
		}
	}
}

// P19.3: First answers only when those who ask slower questions have ended, too.
func TestNobodyAsksBehindTheFirst(t *testing.T) {
	x := slow(t, 3000)
	before := runtime.NumGoroutine()
	for _, workers := range []int{2, 3, 16} {
		for range 5 {
			l := slices.Concat(slices.Repeat(list(get(1)), 2*workers), list(get(0)), slices.Repeat(list(span(0, top)), 2*workers))
			if n, err := First(x, l, workers); n != 2*workers || err != api.OK {
				t.Fatalf("%d, %d", n, err)
			}
			noneAsks(t)
			Ask(x, l, workers)
			noneAsks(t)
			quiet(t, before)
		}
	}
}

// P19.3: no goroutine is left that waits for ever: in a bubble of its own the test fails then.
func TestNobodyWaits(t *testing.T) {
	for workers := 1; workers <= 16; workers++ {
		synctest.Test(t, func(t *testing.T) {
			x, _ := six(t)
			for _, n := range []int{0, 1, 2, 17, 40} {
				for _, o := range []api.Op{get(2), get(3), floor(9), span(0, top)} {
					l := slices.Repeat(list(o), n)
					answered(t, x, l, workers, alone(x, l))
				}
			}
		})
	}
}

// P19.4, R8: what is answered hangs on no schedule.
func TestNoSchedule(t *testing.T) {
	x, _ := filled(t, 2, 4, 8, 6, 2, 5, 7, 3)
	l := strewn(60, scatter())
	l = append(slices.Repeat(list(rank(3), get(0)), 10), l...)
	want := alone(x, l)
	for _, procs := range []int{1, 2, 8} {
		before := runtime.GOMAXPROCS(procs)
		for range 10 {
			for _, workers := range []int{1, 2, 3, 16} {
				answered(t, x, l, workers, want)
			}
		}
		runtime.GOMAXPROCS(before)
	}
}

// R4: what is handed in is neither changed nor kept; what comes out is the caller's, with its spare room, and no two lists share any.
func TestMemory(t *testing.T) {
	x, p := six(t)
	ahead := stateOf(x)
	room := append(everything(), api.Op{Kind: api.OpPut, Key: 99, Value: 1})
	was := slices.Clone(room)
	l := room[:len(room)-1] // what is behind its length is no question, and is not read
	for _, workers := range []int{1, 3, 16} {
		a, errA := Ask(x, l, workers)
		b, errB := Ask(x, l, workers)
		n, err := First(x, l, workers)
		if errA != api.OK || errB != api.OK || err != api.OK || n != firstOf(a) || !slices.Equal(room, was) {
			t.Fatalf("%d, %d, %d, %d, or the questions have changed", errA, errB, n, err)
		}
		for i := range a {
			for j, c := range a[i+1:] {
				clear(a[i].List[:cap(a[i].List)])
				if o := l[i+1+j]; !same(c, p.do(o)) {
					t.Fatalf("%v shares memory with %v", l[i], o)
				}
			}
		}
		clear(a[:cap(a)])
		if !slices.EqualFunc(b, alone(x, l), same) {
			t.Fatal("two calls share memory")
		}
		clear(l[:len(l)])
		if !slices.EqualFunc(b, alone(x, was[:len(l)]), same) {
			t.Fatal("the questions are kept")
		}
		copy(room, was)
		ahead.holds(t, x)
	}
}

// P19.4: many questions, to a tower of many keys in runs of several levels.
func TestMany(t *testing.T) {
	next := scatter()
	x := made(t, 64)
	for i := range 20000 {
		if k := next() >> 8 % (1 << 14) * 3; i%5 == 0 {
			x.Delete(k)
		} else {
			x.Put(k, uint64(i))
		}
	}
	var l []api.Op
	for i := range 1500 {
		k := next() >> 8 % (1 << 16)
		l = append(l, api.Op{Kind: api.OpGet + i%3, Key: k})
		if i%50 == 0 {
			l = append(l, rank(k), span(k, k+500))
		}
	}
	want := alone(x, l)
	for _, workers := range []int{1, 4, 16} {
		answered(t, x, l, workers, want)
	}
}
