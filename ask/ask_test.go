package ask

import (
	"iter"
	"maps"
	"math"
	"runtime"
	"slices"
	"sync"
	"testing"
	"time"

	"incline/api"
	"incline/run"
	"incline/tower"
)

const top = math.MaxUint64

// wrongKinds are those that there are not.
var wrongKinds = []int{9, 8, 0, -1, -7, 10, 1 << 8, 1<<8 + 1, 1<<16 + 2, 1<<32 + 1, 1<<32 + 7, math.MaxInt, math.MinInt, math.MinInt + 1}

// scatter gives words without a pattern, of all lengths, always the same ones.
func scatter() func() uint64 {
	x := uint64(0x9e3779b97f4a7c15)
	next := func() uint64 {
		x ^= x << 13
		x ^= x >> 7
		x ^= x << 17
		return x
	}
	return func() uint64 { return next() >> (next() % 64) }
}

// each hands over every row of at most most things of kinds.
func each[T any](kinds []T, most int, do func([]T)) {
	var grow func(l []T)
	grow = func(l []T) {
		do(slices.Clone(l))
		if len(l) == most {
			return
		}
		for _, k := range kinds {
			grow(append(slices.Clone(l), k))
		}
	}
	grow(nil)
}

func put(key, value uint64) api.Entry { return api.Entry{Key: key, Value: value} }

func gone(key uint64) api.Entry { return api.Entry{Key: key, Gone: true} }

func list(l ...api.Entry) []api.Entry { return l }

// plain is the plain map. All that it is asked it answers by going through all keys.
type plain map[uint64]uint64

func (p plain) span(from, to uint64) []api.Pair {
	var l []api.Pair
	for _, k := range slices.Sorted(maps.Keys(p)) {
		if k >= from && k <= to {
			l = append(l, api.Pair{Key: k, Value: p[k]})
		}
	}
	return l
}

func (p plain) floor(q uint64) (api.Pair, bool) {
	best, is := api.Pair{}, false
	for k, v := range p {
		if k <= q && (!is || k > best.Key) {
			best, is = api.Pair{Key: k, Value: v}, true
		}
	}
	return best, is
}

func (p plain) ceil(q uint64) (api.Pair, bool) {
	best, is := api.Pair{}, false
	for k, v := range p {
		if k >= q && (!is || k < best.Key) {
			best, is = api.Pair{Key: k, Value: v}, true
		}
	}
	return best, is
}

func (p plain) rank(q uint64) int {
	n := 0
	for k := range p {
		if k < q {
			n++
		}
	}
	return n
}

// do is what the plain map answers, which may have most keys.
func (p plain) do(o api.Op, most int) api.Answer {
	v, is := p[o.Key]
	switch o.Kind {
	case api.OpPut:
		if !is && len(p) == most {
			return api.Answer{Code: api.ErrFull}
		}
		p[o.Key] = o.Value
		return api.Answer{}
	case api.OpDelete:
		delete(p, o.Key)
		return api.Answer{Is: is}
	case api.OpGet:
		return api.Answer{Is: is, Value: v}
	case api.OpFloor:
		x, is := p.floor(o.Key)
		return api.Answer{Is: is, Key: x.Key, Value: x.Value}
	case api.OpCeil:
		x, is := p.ceil(o.Key)
		return api.Answer{Is: is, Key: x.Key, Value: x.Value}
	case api.OpRank:
		return api.Answer{Num: p.rank(o.Key)}
	case api.OpRange:
		return api.Answer{List: p.span(o.Key, o.Value)}
	}
	return api.Answer{Code: api.ErrArg}
}

func same(a, b api.Answer) bool {
	lists := slices.Equal(a.List, b.List)
	return lists && a.Code == b.Code && a.Is == b.Is && a.Key == b.Key && a.Value == b.Value && a.Num == b.Num
}

// made is a tower without keys.
func made(t *testing.T, eps, buf, most int) *tower.Tower {
	t.Helper()
	x, err := tower.New(api.Config{Eps: eps, Buf: buf, Keys: most})
	if x == nil || err != api.OK {
		t.Fatal(err)
	}
	return x
}

// laid is a tower with these entries in its buffer, and these in its classes, with the plain map that it is.
func laid(t *testing.T, buf, most int, buffer []api.Entry, lists ...[]api.Entry) (*tower.Tower, plain) {
	t.Helper()
	runs := make([]*run.Run, len(lists))
	p := plain{}
	for class := len(lists) - 1; class >= 0; class-- {
		if l := lists[class]; len(l) > 0 {
			r, err := run.New(l, 2)
			if err != api.OK {
				t.Fatalf("a run of %v: %d", l, err)
			}
			runs[class] = r
			p.lay(l)
		}
	}
	p.lay(buffer)
	x, err := tower.Of(api.Config{Eps: 2, Buf: buf, Keys: most}, buffer, runs)
	if err != api.OK {
		t.Fatalf("a tower of %v, %v: %d", buffer, lists, err)
	}
	return x, p
}

// lay takes newer entries.
func (p plain) lay(l []api.Entry) {
	for _, e := range l {
		p[e.Key] = e.Value
		if e.Gone {
			delete(p, e.Key)
		}
	}
}

// filled is a tower to which all keys are put, one by one, each with ten times its key as value, with the plain map that it is.
func filled(t *testing.T, buf int, keys ...uint64) (*tower.Tower, plain) {
	t.Helper()
	x, p := made(t, 2, buf, 1000), plain{}
	puts(t, x, p, keys...)
	return x, p
}

func puts(t *testing.T, x *tower.Tower, p plain, keys ...uint64) {
	t.Helper()
	for _, k := range keys {
		does(t, x, p, api.Op{Kind: api.OpPut, Key: k, Value: 10 * k})
	}
}

func deletes(t *testing.T, x *tower.Tower, p plain, keys ...uint64) {
	t.Helper()
	for _, k := range keys {
		does(t, x, p, api.Op{Kind: api.OpDelete, Key: k})
	}
}

// does fails, unless Do answers an operation as the plain map does, and changes nothing, where that does not change.
func does(t *testing.T, x *tower.Tower, p plain, o api.Op) {
	t.Helper()
	was, ahead := maps.Clone(p), stateOf(x)
	want := p.do(o, x.Config().Keys)
	if got := Do(x, o); !same(got, want) {
		t.Fatalf("Do(%v) of %v: %v, not %v", o, was, got, want)
	}
	if refused := want.Code != api.OK; refused || o.Kind == api.OpDelete && !want.Is || o.Kind >= api.OpGet {
		ahead.holds(t, x)
	}
}

// state is all that a tower tells of itself.
type state struct {
	stats  api.Stats
	buffer []api.Entry
	runs   []*run.Run
}

func stateOf(x *tower.Tower) state { return state{x.Stats(), x.Buffer(), x.Runs()} }

// holds fails, unless a tower is as it was.
func (s state) holds(t *testing.T, x *tower.Tower) {
	t.Helper()
	a, b := s.stats, x.Stats()
	if a.Live != b.Live || a.Buffered != b.Buffered || a.Builds != b.Builds || a.Written != b.Written || !slices.Equal(a.Sizes, b.Sizes) {
		t.Fatalf("the tower has changed: %v, not %v", b, a)
	}
	if !slices.Equal(s.buffer, x.Buffer()) || !slices.Equal(s.runs, x.Runs()) {
		t.Fatalf("the tower has changed: %v, not %v, or other runs", x.Buffer(), s.buffer)
	}
}

// about are keys, those next to them, and those at both ends.
func about(keys ...uint64) []uint64 {
	l := []uint64{0, 1, 1 << 63, top - 1, top}
	for _, k := range keys {
		l = append(l, k-1, k, k+1)
	}
	slices.Sort(l)
	return slices.Compact(l)
}

// aboutAll are the keys about all that a tower has entries of, tombstones too.
func aboutAll(x *tower.Tower) []uint64 {
	var l []uint64
	for _, e := range x.Buffer() {
		l = append(l, e.Key)
	}
	for _, r := range x.Runs() {
		if r == nil {
			continue
		}
		for _, e := range r.List() {
			l = append(l, e.Key)
		}
	}
	return about(l...)
}

// nearby fails, unless Floor, Ceil and Rank answer what the plain map does, and what follows of it (P18.4) holds.
func nearby(t *testing.T, x *tower.Tower, p plain, qs ...uint64) {
	t.Helper()
	for _, q := range qs {
		floor, low := p.floor(q)
		if got, is := Floor(x, q); got != floor || is != low {
			t.Fatalf("Floor(%d) of %v: %v, %v, not %v, %v", q, p, got, is, floor, low)
		}
		ceil, high := p.ceil(q)
		if got, is := Ceil(x, q); got != ceil || is != high {
			t.Fatalf("Ceil(%d) of %v: %v, %v, not %v, %v", q, p, got, is, ceil, high)
		}
		if got, n := Rank(x, q), p.rank(q); got != n {
			t.Fatalf("Rank(%d) of %v: %d, not %d", q, p, got, n)
		}
		follows(t, x, q)
	}
}

// follows is P18.4, which a tower holds to by itself.
func follows(t *testing.T, x *tower.Tower, q uint64) {
	t.Helper()
	floor, low := Floor(x, q)
	ceil, high := Ceil(x, q)
	v, live := x.Get(q)
	it := api.Pair{Key: q, Value: v}
	if live != (low && floor == it) || live != (high && ceil == it) || live != (low && floor.Key == q) || live != (high && ceil.Key == q) {
		t.Fatalf("%d: live %v, Floor %v, %v, Ceil %v, %v", q, live, floor, low, ceil, high)
	}
	down, up := slices.Collect(Range(x, 0, q)), slices.Collect(Range(x, q, top))
	if low != (len(down) > 0) || low && down[len(down)-1] != floor {
		t.Fatalf("Floor(%d) is %v, %v; the range up to there is %v", q, floor, low, down)
	}
	if high != (len(up) > 0) || high && up[0] != ceil {
		t.Fatalf("Ceil(%d) is %v, %v; the range from there is %v", q, ceil, high, up)
	}
	if low && Rank(x, floor.Key) != len(slices.Collect(Range(x, 0, floor.Key)))-1 {
		t.Fatalf("Rank(%d) is %d; the range up to there is %v", floor.Key, Rank(x, floor.Key), down)
	}
}

// spans fails, unless Range goes through what the plain map has between each two of these.
func spans(t *testing.T, x *tower.Tower, p plain, qs ...uint64) {
	t.Helper()
	for _, from := range qs {
		for _, to := range qs {
			if got, want := slices.Collect(Range(x, from, to)), p.span(from, to); !slices.Equal(got, want) {
				t.Fatalf("Range(%d, %d) of %v: %v, not %v", from, to, p, got, want)
			}
		}
	}
}

// hold fails, unless a tower answers all questions as the plain map does, and is left as it is.
func hold(t *testing.T, x *tower.Tower, p plain) {
	t.Helper()
	ahead, qs := stateOf(x), aboutAll(x)
	nearby(t, x, p, qs...)
	some := qs
	if len(qs) > 20 {
		some = append(qs[:5:5], qs[len(qs)/2], qs[len(qs)/2+1], qs[len(qs)-2], qs[len(qs)-1])
	}
	spans(t, x, p, some...)
	for _, q := range some {
		for kind := api.OpGet; kind <= api.OpRange; kind++ {
			does(t, x, p, api.Op{Kind: kind, Key: q, Value: q + 9})
		}
	}
	ahead.holds(t, x)
}

// sizes fails, unless a tower has so many entries in its buffer and in the runs of its classes.
func sizes(t *testing.T, x *tower.Tower, buffered int, l ...int) {
	t.Helper()
	if s := x.Stats(); s.Buffered != buffered || !slices.Equal(s.Sizes, l) {
		t.Fatalf("%d in the buffer, %v in the runs: not %d, %v", s.Buffered, s.Sizes, buffered, l)
	}
}

// six is the tower of the document's sixth example.
func six(t *testing.T) (*tower.Tower, plain) {
	t.Helper()
	x, p := filled(t, 4, 1, 2, 3, 4)
	deletes(t, x, p, 2)
	puts(t, x, p, 5, 6, 7)
	sizes(t, x, 0, 0, 6)
	return x, p
}

// P18.1 to P18.3: the chapter's examples.
func TestExamples(t *testing.T) {
	x, p := six(t)
	none := api.Pair{}
	for _, y := range []struct {
		q           uint64
		floor, ceil api.Pair
		rank        int
	}{
		{2, api.Pair{Key: 1, Value: 10}, api.Pair{Key: 3, Value: 30}, 1},
		{0, none, api.Pair{Key: 1, Value: 10}, 0},
		{8, api.Pair{Key: 7, Value: 70}, none, 6},
		{5, api.Pair{Key: 5, Value: 50}, api.Pair{Key: 5, Value: 50}, 3},
		{top, api.Pair{Key: 7, Value: 70}, none, 6},
	} {
		if got, is := Floor(x, y.q); got != y.floor || is != (y.floor != none) {
			t.Errorf("Floor(%d): %v, %v", y.q, got, is)
		}
		if got, is := Ceil(x, y.q); got != y.ceil || is != (y.ceil != none) {
			t.Errorf("Ceil(%d): %v, %v", y.q, got, is)
		}
		if got := Rank(x, y.q); got != y.rank {
			t.Errorf("Rank(%d): %d", y.q, got)
		}
	}
	for _, y := range []struct {
		from, to uint64
		want     []api.Pair
	}{{3, 5, []api.Pair{{Key: 3, Value: 30}, {Key: 4, Value: 40}, {Key: 5, Value: 50}}}, {5, 3, nil}, {2, 2, nil}} {
		if got := slices.Collect(Range(x, y.from, y.to)); !slices.Equal(got, y.want) {
			t.Errorf("Range(%d, %d): %v", y.from, y.to, got)
		}
	}
	if a := Do(x, api.Op{Kind: 9}); !same(a, api.Answer{Code: api.ErrArg}) {
		t.Errorf("Do of the Kind 9: %v", a)
	}
	hold(t, x, p)
}

// P18.1, P18.2: keys in the buffer alone, in one run, in several, in the buffer over runs; put again, deleted, put anew.
func TestWhereKeysLie(t *testing.T) {
	x, p := filled(t, 8, 5, 1, 9)
	sizes(t, x, 3)
	hold(t, x, p)
	x, p = filled(t, 3, 5, 1, 9)
	sizes(t, x, 0, 3)
	hold(t, x, p)
	x, p = filled(t, 1, 4, 8, 6, 2, 5, 7, 3)
	sizes(t, x, 0, 1, 2, 4)
	hold(t, x, p)
	x, p = filled(t, 2, 4, 8, 6, 2, 5, 7, 3)
	sizes(t, x, 1, 2, 4)
	hold(t, x, p)
	for _, k := range []uint64{4, 2, 7, 3} { // put again, over a run and in the buffer
		does(t, x, p, api.Op{Kind: api.OpPut, Key: k, Value: k})
		hold(t, x, p)
	}
	for _, k := range []uint64{8, 4, 5, 2} {
		deletes(t, x, p, k)
		hold(t, x, p)
	}
	for _, k := range []uint64{4, 8, 9} { // put anew
		does(t, x, p, api.Op{Kind: api.OpPut, Key: k, Value: k + 1})
		hold(t, x, p)
	}
}

// P18.1: of a key with several entries the newest is told, wherever it and the others are.
func TestNewest(t *testing.T) {
	for _, y := range []struct {
		buffer []api.Entry
		lists  [][]api.Entry
	}{
		{list(put(5, 1)), [][]api.Entry{list(put(5, 2))}},
		{list(put(5, 1)), [][]api.Entry{nil, list(put(5, 2)), list(put(5, 3))}},
		{nil, [][]api.Entry{list(put(5, 1)), list(put(5, 2)), nil, list(put(5, 3))}},
		{list(put(5, 1)), [][]api.Entry{list(gone(5)), list(put(5, 2))}},
		{list(gone(5)), [][]api.Entry{list(put(5, 1)), list(gone(5)), list(put(5, 2))}},
		{list(put(5, 0)), [][]api.Entry{list(put(4, 4), put(5, 1)), list(put(5, 2), put(6, 6))}},
		{list(gone(4), put(5, 1)), [][]api.Entry{list(put(4, 4), gone(5)), list(put(5, 2), put(6, 6)), list(put(3, 3), put(4, 1), put(5, 9), put(6, 8))}},
		{list(gone(5)), [][]api.Entry{list(gone(4), put(5, 7)), nil, list(put(4, 2), put(5, 6)), list(put(3, 3), put(4, 1))}},
	} {
		x, p := laid(t, 3, 9, y.buffer, y.lists...)
		hold(t, x, p)
	}
}

// P18.1, P18.2: a tower without a live key: new, with tombstones of nothing, with all its keys deleted, in the buffer and in runs.
func TestNoLiveKey(t *testing.T) {
	none := func(x *tower.Tower) {
		t.Helper()
		if n := x.Stats().Live; n != 0 {
			t.Fatalf("%d are live", n)
		}
		for _, q := range aboutAll(x) {
			floor, low := Floor(x, q)
			ceil, high := Ceil(x, q)
			if floor != (api.Pair{}) || low || ceil != (api.Pair{}) || high || Rank(x, q) != 0 {
				t.Fatalf("about %d: %v, %v, %v, %v, %d", q, floor, low, ceil, high, Rank(x, q))
			}
		}
		for p := range Range(x, 0, top) {
			t.Fatalf("%v is told", p)
		}
		hold(t, x, plain{})
	}
	none(made(t, 2, 1, 1))
	none(made(t, 64, 1<<20, 1<<20))
	x, _ := laid(t, 9, 9, list(gone(0), gone(7), gone(top)))
	none(x)
	x, _ = laid(t, 9, 9, list(gone(0), gone(top)), list(put(0, 1), put(top, 2)))
	none(x)
	x, _ = laid(t, 9, 9, nil, list(gone(0), gone(3), gone(top)), nil, list(put(0, 1), put(3, 3), put(top, 2)))
	none(x)
	for _, buf := range []int{1, 2, 3, 9} {
		x, p := filled(t, buf, 0, 3, 1, top, 2)
		deletes(t, x, p, 3, 0, top, 2, 1)
		none(x)
	}
}

// P18.1, P18.2: a tower with one live key, at both ends and between, in the buffer and in a run, beside tombstones and without.
func TestOneKey(t *testing.T) {
	for _, k := range []uint64{0, 1, 5, 1 << 63, top - 1, top} {
		for _, buf := range []int{1, 2, 3} {
			x, p := filled(t, buf, k)
			hold(t, x, p)
			puts(t, x, p, k^1, k^2)
			deletes(t, x, p, k^1, k^2)
			if len(p) != 1 || x.Stats().Live != 1 {
				t.Fatalf("not one: %v", p)
			}
			hold(t, x, p)
			does(t, x, p, api.Op{Kind: api.OpPut, Key: k, Value: top})
			hold(t, x, p)
		}
	}
}

// P18.1 to P18.3, T1: as many live keys as may be: a further one is refused, and all is answered as it was.
func TestAsManyAsMayBe(t *testing.T) {
	for _, most := range []int{1, 2, 5, 16} {
		for _, buf := range []int{1, 2, 3, 40} {
			x, p := made(t, 2, buf, most), plain{}
			for k := range uint64(most) {
				puts(t, x, p, 3*k)
			}
			if x.Stats().Live != most {
				t.Fatal(x.Stats())
			}
			hold(t, x, p)
			for _, k := range []uint64{1, 3*uint64(most) - 1, top} {
				ahead := stateOf(x)
				if a := Do(x, api.Op{Kind: api.OpPut, Key: k, Value: 7}); !same(a, api.Answer{Code: api.ErrFull}) {
					t.Fatalf("a put of %d beside %d of %d: %v", k, x.Stats().Live, most, a)
				}
				ahead.holds(t, x)
			}
			hold(t, x, p)
			does(t, x, p, api.Op{Kind: api.OpPut, Key: 0, Value: 7}) // it is live: it is taken
			deletes(t, x, p, 0)
			puts(t, x, p, top) // the place is free again
			hold(t, x, p)
		}
	}
}

// P18.1, P18.2: the keys 0 and 2^64 - 1, in every place, live and deleted.
func TestEnds(t *testing.T) {
	ends := [][]api.Entry{nil, list(put(0, 1)), list(put(top, 2)), list(put(0, 0), put(top, 0))}
	for _, older := range ends {
		for _, newer := range ends {
			for _, buffer := range append(ends, list(gone(0)), list(gone(top)), list(gone(0), gone(top)), list(gone(0), put(top, 4))) {
				x, p := laid(t, 3, 9, buffer, newer, older)
				hold(t, x, p)
			}
		}
	}
	x, p := laid(t, 3, 9, nil, list(put(0, 7), put(top, 8)))
	nearby(t, x, p, 0, 1, 1<<63, top-1, top)
	if a, b, c := Rank(x, 0), Rank(x, 1), Rank(x, top); a != 0 || b != 1 || c != 1 {
		t.Errorf("Rank of 0, 1 and 2^64 - 1: %d, %d, %d", a, b, c)
	}
}

// P18.1: Floor and Ceil at a tombstone, and where only tombstones lie on that side, be there one or many.
func TestAtTombstones(t *testing.T) {
	for _, n := range []int{1, 2, 7, 60} {
		var live, dead []api.Entry
		for k := range uint64(n) {
			live = append(live, put(100+k, k))
			dead = append(dead, gone(100+k))
		}
		for _, beside := range [][]api.Entry{nil, list(put(99, 1)), list(put(300, 1)), list(put(50, 1), put(300, 1)), list(put(0, 1), put(top, 1))} {
			x, p := laid(t, 100, 100, dead, live, beside)
			hold(t, x, p)
			x, p = laid(t, 100, 100, beside, dead, live)
			hold(t, x, p)
			x, p = laid(t, 100, 100, nil, beside, dead, live)
			hold(t, x, p)
			mid := 100 + uint64(n)/2
			floor, low := Floor(x, mid)
			ceil, high := Ceil(x, mid)
			if len(beside) == 2 != (low && high) || low && floor.Key >= 100 || high && ceil.Key < 300 {
				t.Fatalf("at %d, beside %v: %v, %v, %v, %v", mid, beside, floor, low, ceil, high)
			}
		}
	}
}

// P18.2: from above to, equal to it, over all keys and over none: each two of the keys about those that are there.
func TestRangeEdges(t *testing.T) {
	x, p := filled(t, 3, 0, 4, 5, 6, 9, 20, top, top-2)
	deletes(t, x, p, 5, 20)
	spans(t, x, p, aboutAll(x)...)
	if all := slices.Collect(Range(x, 0, top)); len(all) != 6 || x.Stats().Live != 6 {
		t.Errorf("over all keys: %v", all)
	}
	for _, y := range []struct{ from, to uint64 }{{top, 0}, {top, top - 1}, {1, 0}, {7, 8}, {5, 5}, {10, top - 3}, {9, 4}} {
		for q := range Range(x, y.from, y.to) {
			t.Errorf("from %d to %d: %v", y.from, y.to, q)
		}
	}
	for _, k := range []uint64{0, 4, 9, top} {
		if l := slices.Collect(Range(x, k, k)); !slices.Equal(l, []api.Pair{{Key: k, Value: 10 * k}}) {
			t.Errorf("from %d to %d: %v", k, k, l)
		}
	}
}

// taken are the first n pairs of a range, which is left then; of a range that has fewer, or of an n below 1, all.
func taken(s iter.Seq[api.Pair], n int) []api.Pair {
	var l []api.Pair
	for p := range s {
		l = append(l, p)
		if len(l) == n {
			break
		}
	}
	return l
}

// P18.2: a range that is left behind each of its pairs, and is gone over again, whole and in part.
func TestRangeLeft(t *testing.T) {
	x, p := filled(t, 3, 8, 1, 7, 2, 6, 3, 5, 4)
	deletes(t, x, p, 2, 7)
	s, want := Range(x, 1, 8), p.span(1, 8)
	for range 3 {
		for n := 1; n <= len(want); n++ {
			if l := taken(s, n); !slices.Equal(l, want[:n]) {
				t.Fatalf("left behind %d: %v, not %v", n, l, want[:n])
			}
		}
		if l := slices.Collect(s); !slices.Equal(l, want) {
			t.Fatalf("gone over again: %v, not %v", l, want)
		}
	}
	s(func(q api.Pair) bool { // what was left asks no more
		if q != want[0] {
			t.Errorf("%v is told behind the end", q)
		}
		return false
	})
}

// P18.2: a range that is gone over within itself, at each of its pairs, whole and in part.
func TestRangeWithin(t *testing.T) {
	x, p := filled(t, 2, 5, 1, 4, 2, 3)
	s, want := Range(x, 0, top), p.span(0, top)
	var outer []api.Pair
	for q := range s {
		outer = append(outer, q)
		if l := taken(s, len(outer)); !slices.Equal(l, want[:len(outer)]) {
			t.Fatalf("in part, within itself at %v: %v", q, l)
		}
		if l := slices.Collect(s); !slices.Equal(l, want) {
			t.Fatalf("within itself at %v: %v", q, l)
		}
		for range s {
			for r := range s {
				if r != want[0] {
					t.Fatalf("twice within itself at %v: %v", q, r)
				}
				break
			}
		}
	}
	if !slices.Equal(outer, want) {
		t.Errorf("%v, not %v", outer, want)
	}
}

// P18.2: ranges that are at hand beside one another, pair by pair.
func TestRangeBeside(t *testing.T) {
	x, p := filled(t, 2, 5, 1, 4, 2, 3)
	s, want := Range(x, 0, top), p.span(0, top)
	nextA, stopA := iter.Pull(s)
	nextB, stopB := iter.Pull(s)
	defer stopA()
	defer stopB()
	nextA()
	for i := range want {
		b, is := nextB()
		if b != want[i] || !is {
			t.Errorf("the second one: %v, %v, not %v", b, is, want[i])
		}
		a, is := nextA()
		if last := i == len(want)-1; is == last || !last && a != want[i+1] {
			t.Errorf("the first one: %v, %v, behind %v", a, is, want[i])
		}
	}
}

// P18.2: ranges, each made at another time, are gone over behind all later changes, merges among them: each gives what was there when it was made.
func TestRangeStays(t *testing.T) {
	next := scatter()
	for _, buf := range []int{1, 2, 3, 8, 100} {
		x, p := made(t, 2, buf, 20), plain{}
		var made []iter.Seq[api.Pair]
		var wants [][]api.Pair
		for range 80 {
			from, to := next()%12, 20+next()%12
			made, wants = append(made, Range(x, from, to)), append(wants, p.span(from, to))
			does(t, x, p, api.Op{Kind: api.OpPut + int(next()%2), Key: next() % 32, Value: next()})
		}
		if n := x.Stats().Builds; buf < 9 && n < 3 {
			t.Fatalf("%d runs were built", n)
		}
		for i, s := range made {
			if l := slices.Collect(s); !slices.Equal(l, wants[i]) {
				t.Fatalf("the range of change %d: %v, not %v", i, l, wants[i])
			}
		}
	}
}

// P18.2: changes in the midst of a range, which bring merges about and take away all that it has yet to tell, don't show in it.
func TestRangeStaysInTheMidst(t *testing.T) {
	for _, buf := range []int{1, 2, 3, 50} {
		x, p := filled(t, buf, 8, 1, 7, 2, 6, 3, 5, 4)
		s, want := Range(x, 0, top), p.span(0, top)
		var got []api.Pair
		for q := range s {
			got = append(got, q)
			deletes(t, x, p, 1, 8, q.Key, q.Key+1)
			puts(t, x, p, q.Key+20, q.Key+40)
		}
		if !slices.Equal(got, want) || !slices.Equal(slices.Collect(s), want) {
			t.Errorf("buf %d: %v, not %v", buf, got, want)
		}
		hold(t, x, p)
	}
}

// P18.2: a tower and its clone, of which each goes its own way, and a range of either.
func TestRangeOfClone(t *testing.T) {
	x, p := filled(t, 3, 8, 1, 7, 2, 6)
	y, q := x.Clone(), maps.Clone(p)
	s := Range(y, 0, top)
	deletes(t, x, p, 8, 1, 7)
	puts(t, x, p, 3)
	hold(t, y, q)
	hold(t, x, p)
	if l := slices.Collect(s); !slices.Equal(l, q.span(0, top)) {
		t.Errorf("%v, not %v", l, q)
	}
}

// P18.1 to P18.4, T1: every short row of changes of keys at both ends and beside them.
func TestAllShortRows(t *testing.T) {
	var kinds []api.Op
	for _, k := range []uint64{0, 1, top} {
		kinds = append(kinds, api.Op{Kind: api.OpPut, Key: k, Value: k + 5}, api.Op{Kind: api.OpDelete, Key: k})
	}
	for _, buf := range []int{1, 2, 3} {
		each(kinds, 4, func(l []api.Op) {
			x, p := made(t, 2, buf, 2), plain{}
			for i, o := range l {
				o.Value += uint64(i)
				does(t, x, p, o)
			}
			nearby(t, x, p, 0, 1, 2, top-1, top)
			if len(l) < 4 {
				spans(t, x, p, 0, 1, 2, top-1, top)
			}
		})
	}
}

// P18.1 to P18.4, T1: rows of operations of all kinds without a pattern, with keys that come often and with any.
func TestRows(t *testing.T) {
	next := scatter()
	for _, buf := range []int{1, 2, 3, 7, 30} {
		for _, below := range []uint64{0, 8, 40} {
			for _, most := range []int{3, 25, 500} {
				x, p := made(t, 2+buf, buf, most), plain{}
				key := func() uint64 {
					k := next()
					if below > 0 {
						return k % below
					}
					if next()%4 == 0 {
						return []uint64{0, 1, top - 1, top}[next()%4]
					}
					return k
				}
				for range 150 {
					kind := []int{1, 1, 1, 1, 2, 2, 3, 4, 5, 6, 7, 8}[next()%12]
					o := api.Op{Kind: kind, Key: key(), Value: next()}
					if kind == api.OpRange && next()%2 == 0 {
						o.Value = key()
					}
					does(t, x, p, o)
				}
				nearby(t, x, p, key(), key(), key(), key(), 0, top)
				spans(t, x, p, key(), key(), 0, top)
			}
		}
	}
}

// P18.1, P18.2, P18.4: runs of all classes, with keys of their own, and with one key that all have, dead and live by turns.
func TestAllClasses(t *testing.T) {
	var own, one, turns [][]api.Entry
	for class := range uint64(api.MaxClass) {
		own = append(own, list(put((class*7)%api.MaxClass*10, class)))
		one = append(one, list(put(50, class)))
		turns = append(turns, list(api.Entry{Key: 50, Gone: class%2 == 0}))
	}
	for _, lists := range [][][]api.Entry{own, one, turns} {
		x, p := laid(t, 1, 100, nil, lists...)
		nearby(t, x, p, 0, 5, 45, 50, 51, 200, 390, 391, top)
		spans(t, x, p, 0, 49, 50, 51, 390, top)
		x, p = laid(t, 3, 100, list(gone(50), put(60, 1)), lists...)
		nearby(t, x, p, 0, 5, 45, 50, 51, 60, 200, 390, 391, top)
		spans(t, x, p, 0, 49, 50, 51, 60, 390, top)
	}
}

// P18.3: Do of every Kind against the call that it stands for, asked of a tower that is like the other one, all that is not named being zero.
func TestDoIsTheCall(t *testing.T) {
	for _, buf := range []int{1, 2, 3, 30} {
		x, p := filled(t, buf, 4, 0, 8, top, 6, 5)
		deletes(t, x, p, 6, 0)
		for _, q := range aboutAll(x) {
			for _, v := range []uint64{0, 1, q, q + 3, top} {
				y := x.Clone()
				code, stored := y.Put(q, v), stateOf(y)
				deleted := x.Clone()
				is := deleted.Delete(q)
				value, there := x.Get(q)
				floor, low := Floor(x, q)
				ceil, high := Ceil(x, q)
				for kind, want := range map[int]api.Answer{
					api.OpPut:    {Code: code},
					api.OpDelete: {Is: is},
					api.OpGet:    {Is: there, Value: value},
					api.OpFloor:  {Is: low, Key: floor.Key, Value: floor.Value},
					api.OpCeil:   {Is: high, Key: ceil.Key, Value: ceil.Value},
					api.OpRank:   {Num: Rank(x, q)},
					api.OpRange:  {List: slices.Collect(Range(x, q, v))},
				} {
					z := x.Clone()
					if got := Do(z, api.Op{Kind: kind, Key: q, Value: v}); !same(got, want) {
						t.Fatalf("Do of the Kind %d, %d, %d: %v, not %v", kind, q, v, got, want)
					}
					after := stateOf(x)
					switch kind {
					case api.OpPut:
						after = stored
					case api.OpDelete:
						after = stateOf(deleted)
					}
					after.holdsAlike(t, z)
				}
			}
		}
	}
}

// holdsAlike fails, unless a tower is like one that was; runs are alike, if their entries are.
func (s state) holdsAlike(t *testing.T, x *tower.Tower) {
	t.Helper()
	runs := x.Runs()
	if len(runs) != len(s.runs) {
		t.Fatalf("%d runs, not %d", len(runs), len(s.runs))
	}
	for class, r := range runs {
		if (r == nil) != (s.runs[class] == nil) || r != nil && !slices.Equal(r.List(), s.runs[class].List()) {
			t.Fatalf("class %d has another run", class)
		}
	}
	s.runs = runs
	s.holds(t, x)
}

// P18.3: Do of a Kind that there is not, and what is refused, or deletes nothing: nothing is done.
func TestDoNothing(t *testing.T) {
	for _, buf := range []int{1, 2, 3, 30} {
		x, p := made(t, 2, buf, 3), plain{}
		for range 2 {
			ahead := stateOf(x)
			for _, kind := range wrongKinds {
				for _, k := range []uint64{0, 5, 6, top} {
					if a := Do(x, api.Op{Kind: kind, Key: k, Value: 7}); !same(a, api.Answer{Code: api.ErrArg}) {
						t.Fatalf("Do of the Kind %d: %v", kind, a)
					}
				}
			}
			for _, k := range []uint64{1, 6, top - 1} {
				if a := Do(x, api.Op{Kind: api.OpDelete, Key: k, Value: 7}); !same(a, api.Answer{}) {
					t.Fatalf("a delete of %d, which is not live: %v", k, a)
				}
			}
			ahead.holds(t, x)
			hold(t, x, p)
			puts(t, x, p, 5, 0, top)
		}
		ahead := stateOf(x)
		for _, k := range []uint64{1, 6, top - 1} {
			if a := Do(x, api.Op{Kind: api.OpPut, Key: k, Value: 7}); !same(a, api.Answer{Code: api.ErrFull}) {
				t.Fatalf("a put of %d into a full tower: %v", k, a)
			}
		}
		ahead.holds(t, x)
		deletes(t, x, p, 5)
		ahead = stateOf(x)
		if a := Do(x, api.Op{Kind: api.OpDelete, Key: 5}); !same(a, api.Answer{}) { // it was live once
			t.Fatal(a)
		}
		ahead.holds(t, x)
	}
}

// P18.3, R4: lists that come out are the caller's: what is written into them, and into their spare room, changes nothing.
func TestMemory(t *testing.T) {
	x, p := filled(t, 3, 8, 1, 7, 2, 6, 3, 5, 4)
	a, b := Do(x, api.Op{Kind: api.OpRange, Value: top}), Do(x, api.Op{Kind: api.OpRange, Value: top})
	clear(a.List[:cap(a.List)])
	if !slices.Equal(b.List, p.span(0, top)) {
		t.Errorf("two answers share memory: %v", b.List)
	}
	s := Range(x, 0, top)
	clear(b.List[:cap(b.List)])
	l := slices.Collect(s)
	clear(l[:cap(l)])
	if got := slices.Collect(s); !slices.Equal(got, p.span(0, top)) {
		t.Errorf("a range tells %v", got)
	}
	hold(t, x, p)
}

// quiet waits until there are no more goroutines than there were: one that has done its last step may be counted for a moment.
func quiet(t *testing.T, before int) {
	t.Helper()
	for late := time.Now().Add(10 * time.Second); runtime.NumGoroutine() > before; runtime.Gosched() {
		if time.Now().After(late) {
			t.Fatalf("%d goroutines, there were %d", runtime.NumGoroutine(), before)
		}
	}
}

// R8: no goroutine is left, where a question was answered, a range was made, gone over, left, or left by a panic.
func TestNoGoroutineLeft(t *testing.T) {
	x, p := filled(t, 1, 4, 8, 6, 2, 5, 7, 3)
	before := runtime.NumGoroutine()
	for range 20 {
		nearby(t, x, p, 0, 5, top)
		quiet(t, before)
		s := Range(x, 0, top)
		quiet(t, before)
		for n := 1; n <= len(p); n++ {
			taken(s, n)
			quiet(t, before)
		}
		taken(s, -1)
		quiet(t, before)
		func() {
			defer func() {
				if r := recover(); r != "out" {
					t.Errorf("a panic in the range became %v", r)
				}
			}()
			for range s {
				panic("out")
			}
		}()
		quiet(t, before)
	}
}

// T6: questions that are asked at the same time are answered as if they were asked one by one; one range may be gone over by many.
func TestAtTheSameTime(t *testing.T) {
	x, p := filled(t, 2, 4, 8, 6, 2, 5, 7, 3)
	deletes(t, x, p, 6)
	s, want := Range(x, 0, top), p.span(0, top)
	var all sync.WaitGroup
	for range 16 {
		all.Go(func() {
			for range 10 {
				for _, q := range []uint64{0, 2, 3, 6, 8, 9, top} {
					for kind := api.OpGet; kind <= api.OpRange+1; kind++ {
						o := api.Op{Kind: kind, Key: q, Value: q + 3}
						if got, want := Do(x, o), p.do(o, 1000); !same(got, want) {
							t.Errorf("Do(%v): %v, not %v", o, got, want)
						}
					}
				}
				if l := slices.Collect(s); !slices.Equal(l, want) {
					t.Errorf("%v, not %v", l, want)
				}
			}
		})
	}
	all.Wait()
}

// P18.1, P18.2: many keys, in runs of several levels, far more than are held against the plain map one by one.
func TestMany(t *testing.T) {
	next := scatter()
	x, p := made(t, 4, 64, 1<<20), plain{}
	for i := range 20000 {
		k := next() % (1 << 15) * 3
		if i%5 == 0 {
			x.Delete(k)
			delete(p, k)
		} else {
			x.Put(k, uint64(i))
			p[k] = uint64(i)
		}
	}
	ahead, all := stateOf(x), p.span(0, top)
	if l := slices.Collect(Range(x, 0, top)); !slices.Equal(l, all) {
		t.Fatalf("%d are told, not %d", len(l), len(all))
	}
	place := func(q uint64) int {
		return slices.IndexFunc(append(all, api.Pair{Key: top}), func(y api.Pair) bool { return y.Key >= q })
	}
	for i := range uint64(400) {
		q := i * 246
		n := place(q)
		if got := Rank(x, q); got != n {
			t.Fatalf("Rank(%d): %d, not %d", q, got, n)
		}
		if got, is := Ceil(x, q); is != (n < len(all)) || is && got != all[n] {
			t.Fatalf("Ceil(%d): %v, %v", q, got, is)
		}
		upTo := place(q + 1)
		if got, is := Floor(x, q); is != (upTo > 0) || is && got != all[upTo-1] {
			t.Fatalf("Floor(%d): %v, %v", q, got, is)
		}
		if l, want := slices.Collect(Range(x, q, q+300)), all[n:place(q+301)]; !slices.Equal(l, want) {
			t.Fatalf("Range(%d, %d): %v, not %v", q, q+300, l, want)
		}
	}
	ahead.holds(t, x)
}

// P18.1: a long row of tombstones is gone past, to both sides.
func TestManyTombstones(t *testing.T) {
	const n = 5000
	var live, dead []api.Entry
	for k := range uint64(n) {
		live = append(live, put(k+1, k))
		dead = append(dead, gone(k+1))
	}
	x, p := laid(t, n, 2*n, list(put(0, 1), put(n+1, 2)), dead, live)
	for _, q := range []uint64{0, 1, n / 2, n, n + 1, top} {
		nearby(t, x, p, q)
	}
	x, p = laid(t, n+1, 2*n, dead, live)
	nearby(t, x, p, 0, 1, n/2, n, n+1, top)
}
