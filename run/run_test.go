package run

import (
	"math"
	"slices"
	"testing"

	"incline/api"
	"incline/keys"
	"incline/levels"
	"incline/model"
	"incline/probe"
)

const top = math.MaxUint64

var (
	allEps   = []int{2, 3, 8, 63, 64}
	wrongEps = []int{math.MinInt, -64, -2, -1, 0, 1, 65, 66, 1<<32 + 2, math.MaxInt}
	beyond   = []int{math.MinInt, math.MinInt + 1, -1 << 32, -2, -1, 1 << 32, math.MaxInt - 1, math.MaxInt}
	five     = []api.Entry{{Key: 10, Value: 1}, {Key: 20, Value: 2}, {Key: 30, Gone: true}, {Key: 40, Value: 4}, {Key: 50, Value: 5}}
	root5    = api.Segment{First: 10, Slope: 0.05, Intercept: 1, From: 0, To: 5}
)

// A run is what is descended.
var _ probe.Slots = (*Run)(nil)

// scatter gives words without a pattern, of all lengths, always the same ones.
func scatter() func() uint64 {
	x := uint64(0x9e3779b97f4a7c15)
	next := func() uint64 {
		x ^= x << 13
		x ^= x >> 7
		x ^= x << 17
		return x
	}
	return func() uint64 { return next() >> (next() % 64) }
}

// streams are rising keys of many kinds, n at most (fewer where the next one would be beyond).
func streams(n int) [][]uint64 {
	next := scatter()
	gaps := []func(i int) uint64{
		func(i int) uint64 { return 1 },
		func(i int) uint64 { return 10 },
		func(i int) uint64 { return top / uint64(n) },
		func(i int) uint64 { return 1 + next()%3 },
		func(i int) uint64 { return 1 + next()%1000 },
		func(i int) uint64 { return 1 + next()%(top/uint64(n)) },
		func(i int) uint64 { return uint64(i + 1) },
		func(i int) uint64 { return 1 << min(i/3, 62) },
		func(i int) uint64 { return 1<<30*uint64(i%13/12) + 1 },
		func(i int) uint64 { return 1<<57>>min(i, 57) + 1 },
		func(i int) uint64 { return 1 + 1000*uint64(1-i/15%2) },
	}
	var all [][]uint64
	for g, gap := range gaps {
		k := []uint64{0, 7, 1 << 33}[g%3]
		l := []uint64{k}
		for i := 1; i < n; i++ {
			d := gap(i)
			if d > top-k {
				l = append(l, top)
				break
			}
			k += d
			l = append(l, k)
		}
		all = append(all, l)
	}
	return all
}

// nested are base^digits keys: blocks of blocks of blocks, each so far from the next one (the more digits, the further) that no line with 2 * eps = base goes on from one to the other, on any level.
func nested(base, digits, bits int) []uint64 {
	l := []uint64{0}
	for d := range digits {
		var more []uint64
		for i := range base {
			for _, k := range l {
				more = append(more, uint64(i)<<(d*bits)+k)
			}
		}
		l = more
	}
	return l
}

// piled are keys with which there are many levels, for some eps.
func piled(eps int) []uint64 {
	switch eps {
	case 2:
		return nested(4, 5, 7)
	case 3:
		return nested(6, 4, 9)
	case 8:
		return nested(16, 3, 12)
	case 64:
		return nested(128, 2, 20)
	}
	return nil
}

// filled are entries with these keys: values of all kinds, and tombstones, in some of them everywhere, or nowhere.
func filled(ks []uint64, kind int, next func() uint64) []api.Entry {
	var l []api.Entry
	for _, k := range ks {
		e := api.Entry{Key: k, Value: next()}
		switch {
		case kind%4 == 0 || kind%4 > 1 && next()%3 == 0:
			e.Value, e.Gone = 0, true
		case next()%5 == 0:
			e.Value = []uint64{0, 1, top, k}[next()%4]
		}
		l = append(l, e)
	}
	return l
}

// bases are entries of many kinds, from none on.
func bases(eps int, next func() uint64) [][]api.Entry {
	some := [][]uint64{{0}, {7}, {top}, {0, top}, {0, 1}, {top - 1, top}, {7, 9}, {0, 1, 2, 3, 100, 101, 102}}
	some = append(some, streams(6*eps+20)...)
	if l := piled(eps); l != nil {
		some = append(some, l, l[1:len(l)-1], l[:len(l)/2+1])
	}
	all := [][]api.Entry{nil, {}, five}
	for i, ks := range some {
		all = append(all, filled(ks, i, next))
	}
	return all
}

// heads are the Firsts of a level.
func heads(level []api.Segment) []uint64 {
	var l []uint64
	for _, s := range level {
		l = append(l, s.First)
	}
	return l
}

// copied are levels like l, that share nothing with them.
func copied(l [][]api.Segment) [][]api.Segment {
	var other [][]api.Segment
	for _, level := range l {
		other = append(other, slices.Clone(level))
	}
	return other
}

// sameSegment tells whether two segments are the same, their floats bit by bit.
func sameSegment(a, b api.Segment) bool {
	return a == b && math.Float64bits(a.Slope) == math.Float64bits(b.Slope) && math.Float64bits(a.Intercept) == math.Float64bits(b.Intercept)
}

func sameLevels(a, b [][]api.Segment) bool {
	return slices.EqualFunc(a, b, func(x, y []api.Segment) bool { return slices.EqualFunc(x, y, sameSegment) })
}

// built are the levels over the keys of entries that levels.Build makes.
func built(t *testing.T, l []api.Entry, eps int) [][]api.Segment {
	t.Helper()
	ls, err := levels.Build(keys.Of(l), eps)
	if err != api.OK {
		t.Fatalf("Build of %d keys, eps %d: %v", len(l), eps, err)
	}
	return ls
}

// laid are levels over keys that levels.Build need not make: each level's slots are cut by size.
func laid(t *testing.T, ks []uint64, eps int, size func() int) [][]api.Segment {
	t.Helper()
	var l [][]api.Segment
	for len(ks) > 0 && (len(l) == 0 || len(ks) > 1) {
		var level []api.Segment
		for from := 0; from < len(ks); {
			n := min(size(), len(ks)-from)
			s, err := model.Of(ks[from:from+n], eps, from)
			if err != api.OK {
				t.Fatalf("no segment over %v: %v", ks[from:from+n], err)
			}
			level = append(level, s)
			from += n
		}
		l = append(l, level)
		ks = heads(level)
	}
	return l
}

// loosened are levels like l, each of whose segments predicts otherwise, as long as it is off by at most eps; some Intercepts are -0.
func loosened(ks []uint64, eps int, l [][]api.Segment, next func() uint64) [][]api.Segment {
	l = copied(l)
	for _, level := range l {
		for i, s := range level {
			for range 6 {
				other := s
				other.Intercept += []float64{-64, -2, -1.5, -1, -0.5, 0.5, 1, 1.5, 2, 2.999, 64}[next()%11]
				other.Slope *= []float64{0, 0.5, 0.9, 1, 1, 1, 1.1, 1.5, 2}[next()%9]
				if next()%4 == 0 {
					other.Intercept = math.Copysign(0, -1)
				}
				if off, err := model.Off(other, ks[s.From:s.To]); err == api.OK && off <= eps {
					level[i] = other
				}
			}
		}
		ks = heads(level)
	}
	return l
}

// raised are levels like l, with more of them over the root, as many as there may be.
func raised(eps int, l [][]api.Segment) [][]api.Segment {
	l = copied(l)
	root := l[len(l)-1][0]
	for len(l) < levels.MaxHeight(api.MaxRun, eps) {
		l = append(l, []api.Segment{{First: root.First, Intercept: float64(len(l) % 3), From: 0, To: 1}})
	}
	return l
}

// right hands over runs of entries with levels that are right: of New, and of Of with other levels.
func right(t *testing.T, do func(r *Run, l []api.Entry, eps int, ls [][]api.Segment)) {
	t.Helper()
	next := scatter()
	of := func(l []api.Entry, eps int, ls [][]api.Segment) {
		t.Helper()
		do(taken(t, l, eps, ls), l, eps, ls)
	}
	for _, eps := range allEps {
		for _, l := range bases(eps, next) {
			ls := built(t, l, eps)
			do(made(t, l, eps), l, eps, ls)
			of(l, eps, ls)
			if len(l) == 0 {
				continue
			}
			ks := keys.Of(l)
			of(l, eps, loosened(ks, eps, ls, next))
			of(l, eps, raised(eps, ls))
			short := laid(t, ks, eps, func() int { return 2 + int(next()%uint64(2*eps-2)) })
			of(l, eps, loosened(ks, eps, short, next))
		}
	}
}

// made is New's run of entries that are right.
func made(t *testing.T, l []api.Entry, eps int) *Run {
	t.Helper()
	r, err := New(l, eps)
	if err != api.OK || r == nil {
		t.Fatalf("New of %d entries, eps %d: %v, %v", len(l), eps, r, err)
	}
	return r
}

// taken is Of's run of entries and levels that are right.
func taken(t *testing.T, l []api.Entry, eps int, ls [][]api.Segment) *Run {
	t.Helper()
	r, err := Of(l, eps, ls)
	if err != api.OK || r == nil {
		t.Fatalf("Of %d entries, eps %d, %d levels: %v, %v", len(l), eps, len(ls), r, err)
	}
	return r
}

// asked are keys to ask for: about each of some keys, about the ends of some segments' stretches, and at both ends of all that may be.
func asked(l []api.Entry, ls [][]api.Segment, next func() uint64) []uint64 {
	qs := []uint64{0, 1, top - 1, top, next(), next()}
	about := func(i int) {
		k := l[i].Key
		room := top - k
		if i+1 < len(l) {
			room = l[i+1].Key - k - 1
		}
		qs = append(qs, k, k-min(k, 1), k+min(room, 1), k+room/2, k+room)
	}
	for i := 0; i < len(l); i += 1 + int(next()%uint64(1+len(l)/40)) {
		about(i)
	}
	if len(l) > 0 {
		about(0)
		about(len(l) - 1)
	}
	if len(ls) > 0 {
		for i := 0; i < len(ls[0]); i += 1 + len(ls[0])/20 {
			about(ls[0][i].From)
			about(ls[0][i].To - 1)
		}
	}
	return qs
}

// plainRank is how many keys are below q, and the entry of q, if there is one: each entry is looked at.
func plainRank(l []api.Entry, q uint64) (rank int, e api.Entry, there bool) {
	for _, x := range l {
		if x.Key < q {
			rank++
		}
		if x.Key == q {
			e, there = x, true
		}
	}
	return rank, e, there
}

// tells fails, unless a run tells these entries, this eps and these levels by each call that has no question in it.
func tells(t *testing.T, r *Run, l []api.Entry, eps int, ls [][]api.Segment) {
	t.Helper()
	if r.Len() != len(l) || r.Eps() != eps || r.Height() != len(ls) || r.Size(0) != len(l) {
		t.Fatalf("%d entries, %d keys, eps %d, height %d: want %d, %d, %d", r.Len(), r.Size(0), r.Eps(), r.Height(), len(l), eps, len(ls))
	}
	if got := r.List(); !slices.Equal(got, l) {
		t.Fatalf("List: %v, want %v", got, l)
	}
	if got := r.Levels(); !sameLevels(got, ls) {
		t.Fatalf("Levels: %v, want %v", got, ls)
	}
	for i, e := range l {
		if got, err := r.At(i); got != e || err != api.OK || r.Key(0, i) != e.Key {
			t.Fatalf("entry %d: %v, %v, the key %d, want %v", i, got, err, r.Key(0, i), e)
		}
	}
	for i, level := range ls {
		if r.Size(i+1) != len(level) {
			t.Fatalf("level %d: %d slots, want %d", i+1, r.Size(i+1), len(level))
		}
		for slot, s := range level {
			if r.Key(i+1, slot) != s.First || !sameSegment(r.Segment(i+1, slot), s) {
				t.Fatalf("level %d, slot %d: %d, %v, want %v", i+1, slot, r.Key(i+1, slot), r.Segment(i+1, slot), s)
			}
		}
	}
}

// alike fails, unless two runs answer the same to all that can be asked.
func alike(t *testing.T, a, b *Run, qs []uint64) {
	t.Helper()
	tells(t, a, b.List(), b.Eps(), b.Levels())
	for _, q := range qs {
		x, there := a.Get(q)
		y, is := b.Get(q)
		if x != y || there != is || a.Rank(q) != b.Rank(q) || !slices.Equal(probe.Path(a, q), probe.Path(b, q)) {
			t.Fatalf("%d: %v, %v, %d and %v, %v, %d", q, x, there, a.Rank(q), y, is, b.Rank(q))
		}
	}
}

// P11.1, P11.2, P11.3, P11.5: what runs of New, and of Of with these and other levels, tell of themselves.
func TestKeepsAll(t *testing.T) {
	heights, tombstones, sizes, minus := map[int]int{}, map[int]int{}, map[int]int{}, 0
	right(t, func(r *Run, l []api.Entry, eps int, ls [][]api.Segment) {
		tells(t, r, l, eps, ls)
		heights[len(ls)]++
		sizes[len(l)]++
		gone := len(l) - keys.Live(l)
		switch {
		case len(l) > 1 && gone == len(l):
			tombstones[2]++
		case gone > 0:
			tombstones[1]++
		default:
			tombstones[0]++
		}
		for _, level := range ls {
			for _, s := range level {
				if s.Intercept == 0 && math.Signbit(s.Intercept) {
					minus++
				}
			}
		}
	})
	for _, h := range []int{0, 1, 2, 3, 5, 6, 32} {
		if heights[h] == 0 {
			t.Errorf("heights: %v", heights)
		}
	}
	if min(tombstones[0], tombstones[1], tombstones[2]) < 10 || min(sizes[0], sizes[1], sizes[2]) < 10 || minus < 10 {
		t.Errorf("tombstones: %v, sizes: %v, intercepts of -0: %d", tombstones, sizes, minus)
	}
}

// P11.1 to P11.5: the chapter's examples.
func TestExamples(t *testing.T) {
	r := made(t, five, 2)
	tells(t, r, five, 2, [][]api.Segment{{root5}})
	for level, want := range map[int]int{-1: 0, 0: 5, 1: 1, 2: 0} {
		if n := r.Size(level); n != want {
			t.Errorf("Size(%d): %d, want %d", level, n, want)
		}
	}
	if n := r.Rank(35); n != 3 {
		t.Errorf("Rank(35): %d", n)
	}
	if e, there := r.Get(30); !there || e != (api.Entry{Key: 30, Gone: true}) {
		t.Errorf("Get(30): %v, %v", e, there)
	}
	if e, there := r.Get(35); there || e != (api.Entry{}) {
		t.Errorf("Get(35): %v, %v", e, there)
	}
	if e, err := r.At(1); err != api.OK || e != (api.Entry{Key: 20, Value: 2}) {
		t.Errorf("At(1): %v, %v", e, err)
	}
	if e, err := r.At(5); err != api.ErrArg || e != (api.Entry{}) {
		t.Errorf("At(5): %v, %v", e, err)
	}
	if r.Key(0, 4) != 50 || r.Key(1, 0) != 10 || r.Key(0, 5) != 0 || r.Segment(1, 0) != root5 || r.Segment(0, 0) != (api.Segment{}) {
		t.Errorf("slots: %d, %d, %d, %v, %v", r.Key(0, 4), r.Key(1, 0), r.Key(0, 5), r.Segment(1, 0), r.Segment(0, 0))
	}
	if r, err := New([]api.Entry{{Key: 5, Value: 1}, {Key: 5, Value: 2}}, 2); r != nil || err != api.ErrKeysOrder {
		t.Errorf("a key twice: %v, %v", r, err)
	}
	if r, err := New(nil, 1); r != nil || err != api.ErrArg {
		t.Errorf("eps 1: %v, %v", r, err)
	}
	if r, err := Of([]api.Entry{{Key: 7, Value: 1}}, 2, nil); r != nil || err != api.ErrLevelsHigh {
		t.Errorf("no levels: %v, %v", r, err)
	}
}

// P11.1 to P11.5: a run of nothing, of New and of Of, of nil and of lists without anything.
func TestNothing(t *testing.T) {
	for _, eps := range []int{2, 3, 63, 64} {
		for _, l := range [][]api.Entry{nil, {}, five[:0], make([]api.Entry, 0, 4)} {
			for _, r := range []*Run{made(t, l, eps), taken(t, l, eps, nil), taken(t, l, eps, [][]api.Segment{})} {
				tells(t, r, nil, eps, nil)
				for _, q := range []uint64{0, 1, 9, top - 1, top} {
					if e, there := r.Get(q); there || e != (api.Entry{}) || r.Rank(q) != 0 {
						t.Errorf("%d in nothing: %v, %v, rank %d", q, e, there, r.Rank(q))
					}
				}
				if r.Size(1) != 0 || r.Key(0, 0) != 0 || r.Key(1, 0) != 0 || r.Segment(1, 0) != (api.Segment{}) {
					t.Errorf("slots of nothing, eps %d", eps)
				}
			}
		}
	}
}

// refusedNew fails, unless New refuses with that error; and Of too, whatever levels it is given.
func refusedNew(t *testing.T, name string, l []api.Entry, eps int, want api.Errno) {
	t.Helper()
	if r, err := New(l, eps); r != nil || err != want {
		t.Errorf("New of %s: %v, %v, want %v", name, r, err, want)
	}
	for _, ls := range [][][]api.Segment{nil, {}, {nil}, {{root5}}, {{{First: 9, Slope: 3, From: 1}}}, make([][]api.Segment, 40)} {
		refusedOf(t, name, l, eps, ls, want)
	}
}

// refusedOf fails, unless Of refuses with that error.
func refusedOf(t *testing.T, name string, l []api.Entry, eps int, ls [][]api.Segment, want api.Errno) {
	t.Helper()
	if r, err := Of(l, eps, ls); r != nil || err != want {
		t.Errorf("Of %s, %d levels: %v, %v, want %v", name, len(ls), r, err, want)
	}
}

// P11.1, P11.2: an eps that may not be, ahead of all that is wrong with entries, and these ahead of all that is wrong with levels; the eps beside the limits that may be.
func TestRefusesEntries(t *testing.T) {
	falling := []api.Entry{{Key: 4, Value: 1}, {Key: 3, Value: 1}}
	valued := []api.Entry{{Key: 3, Value: 1}, {Key: 4, Value: 9, Gone: true}}
	for _, eps := range wrongEps {
		refusedNew(t, "nothing, and a wrong eps", nil, eps, api.ErrArg)
		refusedNew(t, "right entries, and a wrong eps", five, eps, api.ErrArg)
		refusedNew(t, "falling keys, and a wrong eps", falling, eps, api.ErrArg)
		refusedNew(t, "a tombstone with a value, and a wrong eps", valued, eps, api.ErrArg)
	}
	for _, eps := range allEps {
		refusedNew(t, "falling keys", falling, eps, api.ErrKeysOrder)
		refusedNew(t, "a tombstone with a value", valued, eps, api.ErrKeysGone)
		for _, x := range []struct {
			l    []api.Entry
			want api.Errno
		}{
			{[]api.Entry{{Key: 3}, {Key: 3}}, api.ErrKeysOrder},
			{[]api.Entry{{Key: top}, {Key: 0}}, api.ErrKeysOrder},
			{[]api.Entry{{Key: 0}, {Key: 0}}, api.ErrKeysOrder},
			{[]api.Entry{{Key: top}, {Key: top, Gone: true}}, api.ErrKeysOrder},
			{[]api.Entry{{Key: 7, Value: 9, Gone: true}, {Key: 5}}, api.ErrKeysGone},
			{[]api.Entry{{Key: 5}, {Key: 4, Value: 9, Gone: true}}, api.ErrKeysOrder},
			{[]api.Entry{{Key: 5}, {Key: 5}, {Key: 6, Value: 1, Gone: true}}, api.ErrKeysOrder},
			{append(slices.Clone(five), api.Entry{Key: 50, Value: 6}), api.ErrKeysOrder},
			{append(slices.Clone(five), api.Entry{Key: 51, Value: 6, Gone: true}), api.ErrKeysGone},
			{[]api.Entry{{Key: 0, Value: top, Gone: true}}, api.ErrKeysGone},
		} {
			refusedNew(t, "wrong entries", x.l, eps, x.want)
		}
	}
	for _, eps := range []int{2, 3, 63, 64} {
		made(t, five, eps)
		taken(t, five, eps, [][]api.Segment{{root5}})
	}
}

// P11.2: each error of levels.Check that there can be of a run's keys and eps, on any level, and of several the first.
func TestOfRefusesLevels(t *testing.T) {
	next := scatter()
	refusedOf(t, "no levels", five, 2, nil, api.ErrLevelsHigh)
	refusedOf(t, "no levels", five, 64, [][]api.Segment{}, api.ErrLevelsHigh)
	refusedOf(t, "a level over nothing", nil, 2, [][]api.Segment{nil}, api.ErrLevelsHigh)
	refusedOf(t, "a level over nothing", nil, 2, [][]api.Segment{{{To: 0}}}, api.ErrLevelsHigh)
	refusedOf(t, "a level without segments", five, 2, [][]api.Segment{nil}, api.ErrLevelsTile)
	for _, eps := range allEps {
		most := raised(eps, built(t, five, eps))
		refusedOf(t, "too many levels", five, eps, append(most, []api.Segment{{First: 10, To: 1}}), api.ErrLevelsHigh)
		refusedOf(t, "too many levels, and a gap", five, eps, append(most, []api.Segment{{First: 11, From: 1, To: 1}}), api.ErrLevelsHigh)
	}
	ks := nested(4, 3, 7)
	l := filled(ks, 2, next)
	whole := built(t, l, 2)
	for at := range 2 {
		refusedOf(t, "no root", l, 2, whole[:at+1], api.ErrLevelsRoot)
		refusedOf(t, "no root, and a slope of 3", l, 2, append([][]api.Segment{{{Slope: 3, To: 64}}}, whole[1:at+1]...), api.ErrModelSlope)
		for _, x := range []struct {
			name   string
			change func(l []api.Segment)
			want   api.Errno
		}{
			{"a gap", func(l []api.Segment) { l[1].From++ }, api.ErrLevelsTile},
			{"an end too early", func(l []api.Segment) { l[len(l)-1].To-- }, api.ErrLevelsTile},
			{"a stretch that may not be", func(l []api.Segment) { l[0].From = -1 }, api.ErrLevelsTile},
			{"a stretch too far", func(l []api.Segment) { l[len(l)-1].To = api.MaxRun + 1 }, api.ErrLevelsTile},
			{"a slope that may not be", func(l []api.Segment) { l[2].Slope = 2.5 }, api.ErrModelSlope},
			{"a slope of -0", func(l []api.Segment) { l[2].Slope = math.Copysign(0, -1) }, api.ErrModelSlope},
			{"a slope that is none", func(l []api.Segment) { l[0].Slope = math.NaN() }, api.ErrModelSlope},
			{"an intercept without end", func(l []api.Segment) { l[3].Intercept = math.Inf(1) }, api.ErrModelIntercept},
			{"an intercept that is none", func(l []api.Segment) { l[3].Intercept = math.NaN() }, api.ErrModelIntercept},
			{"another First", func(l []api.Segment) { l[1].First++ }, api.ErrLevelsFirst},
			{"too high", func(l []api.Segment) { l[1].Intercept += 3 }, api.ErrLevelsBound},
			{"too low", func(l []api.Segment) { l[3].Slope, l[3].Intercept = 0, 0 }, api.ErrLevelsBound},
			{"a gap behind a slope of 3", func(l []api.Segment) { l[0].Slope = 3; l[1].From++ }, api.ErrLevelsTile},
			{"a slope of 3 behind another First", func(l []api.Segment) { l[0].First++; l[1].Slope = 3 }, api.ErrLevelsFirst},
			{"another First and a slope of 3", func(l []api.Segment) { l[1].First++; l[1].Slope = 3 }, api.ErrModelSlope},
			{"another First and too high", func(l []api.Segment) { l[1].First++; l[1].Intercept += 3 }, api.ErrLevelsFirst},
		} {
			ls := copied(whole)
			x.change(ls[at])
			refusedOf(t, x.name, l, 2, ls, x.want)
			if at == 0 {
				ls[1][0].From = 7
				refusedOf(t, x.name+", and a gap above", l, 2, ls, x.want)
			}
		}
	}
}

// P11.2: any levels are taken just if levels.Check takes them, and with its error refused, if not.
func TestOfIsCheck(t *testing.T) {
	next := scatter()
	took := map[bool]int{}
	right(t, func(_ *Run, l []api.Entry, eps int, ls [][]api.Segment) {
		for range 3 {
			if len(ls) == 0 {
				return
			}
			ls := copied(ls)
			level := ls[next()%uint64(len(ls))]
			s := &level[next()%uint64(len(level))]
			switch next() % 6 {
			case 0:
				s.First += next()
			case 1:
				s.Slope = math.Float64frombits(next())
			case 2:
				s.Intercept += float64(next()%uint64(2*eps)) - float64(eps)
			case 3:
				s.From += int(next() % 2)
			case 4:
				s.To -= int(next() % 2)
			}
			r, err := Of(l, eps, ls)
			if want := levels.Check(keys.Of(l), eps, ls); err != want || (r != nil) != (err == api.OK) {
				t.Fatalf("%d entries, eps %d: %v, %v, want %v", len(l), eps, r, err, want)
			}
			if r != nil {
				tells(t, r, l, eps, ls)
			}
			took[r != nil]++
		}
	})
	if min(took[true], took[false]) < 100 {
		t.Errorf("taken: %v", took)
	}
}

// P11.3, P11.5: entries, levels and slots that there are not.
func TestHasNoOthers(t *testing.T) {
	next := scatter()
	none := func(r *Run, level, slot int) {
		t.Helper()
		if k, s := r.Key(level, slot), r.Segment(level, slot); k != 0 || s != (api.Segment{}) {
			t.Errorf("level %d, slot %d, which there is not: %d, %v", level, slot, k, s)
		}
	}
	for i, ks := range [][]uint64{nil, {7}, {7, 9}, {1, 2, 3, 4, 5}, {5, 6, 7, 8, 100, 101, 102}, nested(4, 3, 7)[1:]} {
		l := filled(ks, i, next)
		r := made(t, l, 2)
		for _, i := range append(slices.Clone(beyond), len(l), len(l)+1) {
			if e, err := r.At(i); e != (api.Entry{}) || err != api.ErrArg {
				t.Errorf("%d entries, At(%d): %v, %v", len(l), i, e, err)
			}
		}
		for _, level := range append(slices.Clone(beyond), r.Height()+1, r.Height()+2) {
			if n := r.Size(level); n != 0 {
				t.Errorf("%d levels, the size of level %d: %d", r.Height(), level, n)
			}
			for _, slot := range append(slices.Clone(beyond), 0, 1, len(ks)) {
				none(r, level, slot)
			}
		}
		for level := range r.Height() + 1 {
			for _, slot := range append(slices.Clone(beyond), r.Size(level), r.Size(level)+1) {
				none(r, level, slot)
			}
		}
		for slot := range ks {
			if s := r.Segment(0, slot); s != (api.Segment{}) {
				t.Errorf("the segment of level 0, slot %d: %v", slot, s)
			}
		}
	}
}

// P11.4: what is asked of every kind of run, each entry looked at.
func TestRankAndGet(t *testing.T) {
	next := scatter()
	found := map[string]int{}
	right(t, func(r *Run, l []api.Entry, eps int, ls [][]api.Segment) {
		for _, q := range asked(l, ls, next) {
			rank, e, there := plainRank(l, q)
			if n := r.Rank(q); n != rank {
				t.Fatalf("Rank of %d, eps %d, %d entries: %d, want %d", q, eps, len(l), n, rank)
			}
			if got, is := r.Get(q); got != e || is != there {
				t.Fatalf("Get of %d, eps %d, %d entries: %v, %v, want %v, %v", q, eps, len(l), got, is, e, there)
			}
			switch {
			case there && e.Gone:
				found["tombstone"]++
			case there && e.Value == 0:
				found["nought"]++
			case there:
				found["value"]++
			case rank == 0:
				found["below all"]++
			case rank == len(l):
				found["above all"]++
			default:
				found["between"]++
			}
		}
	})
	for _, name := range []string{"tombstone", "nought", "value", "below all", "above all", "between"} {
		if found[name] < 100 {
			t.Errorf("found: %v", found)
		}
	}
}

// P11.4, P11.8: the keys 0 and 2^64 - 1, each with a value or as a tombstone.
func TestEnds(t *testing.T) {
	for _, eps := range []int{2, 64} {
		for _, ends := range [][2]api.Entry{
			{{Key: 0, Value: 0}, {Key: top, Value: top}},
			{{Key: 0, Gone: true}, {Key: top, Value: 0}},
			{{Key: 0, Value: 8}, {Key: top, Gone: true}},
		} {
			for _, inner := range [][]api.Entry{nil, {{Key: 1}}, {{Key: top - 1}}, five} {
				l := append([]api.Entry{ends[0]}, inner...)
				l = append(l, ends[1])
				r := made(t, l, eps)
				for _, x := range []struct {
					q     uint64
					rank  int
					e     api.Entry
					there bool
				}{
					{0, 0, ends[0], true},
					{2, 1 + len(inner) - keysFrom(inner, 2), api.Entry{}, false},
					{top - 2, 1 + len(inner) - keysFrom(inner, top-2), api.Entry{}, false},
					{top, len(l) - 1, ends[1], true},
				} {
					if e, there := r.Get(x.q); e != x.e || there != x.there || r.Rank(x.q) != x.rank {
						t.Errorf("%d in %v: %v, %v, rank %d, want %v", x.q, l, e, there, r.Rank(x.q), x)
					}
				}
			}
		}
	}
}

// keysFrom is how many entries have keys that are not below q.
func keysFrom(l []api.Entry, q uint64) int {
	rank, _, _ := plainRank(l, q)
	return len(l) - rank
}

// P11.6: nothing that is written into what was handed in, or came out, changes a run or another answer; what is behind a list's length is not read, nor written.
func TestNothingChangesARun(t *testing.T) {
	next := scatter()
	for _, kept := range []bool{false, true} {
		room := append(filled(nested(4, 3, 7), 3, next), api.Entry{Key: 3, Value: 3, Gone: true}, api.Entry{Key: 3})
		was := slices.Clone(room)
		l := room[:64]
		ls := built(t, l, 2)
		wide := copied(ls)
		for i := range wide {
			wide[i] = append(wide[i], api.Segment{First: 1, Slope: -1, From: 9, To: 3})[:len(wide[i])]
		}
		wide = append(wide, []api.Segment{{To: -1}})[:len(wide)]
		r := made(t, l, 2)
		if kept {
			r = taken(t, l, 2, wide)
		}
		if !slices.Equal(room, was) || !sameLevels(wide, ls) || !sameLevels(wide[3:4], [][]api.Segment{{{To: -1}}}) || wide[0][:17][16].From != 9 {
			t.Fatal("an argument changed")
		}
		clear(room)
		for _, level := range wide {
			clear(level)
		}
		clear(wide)
		tells(t, r, was[:64], 2, ls)
		smear(r)
		tells(t, r, was[:64], 2, ls)
		for _, q := range asked(was[:64], ls, next) {
			rank, e, there := plainRank(was[:64], q)
			if got, is := r.Get(q); got != e || is != there || r.Rank(q) != rank {
				t.Fatalf("%d: %v, %v, rank %d, want %v, %v, %d", q, got, is, r.Rank(q), e, there, rank)
			}
		}
	}
}

// smear writes over all that comes out of a run, the spare room too.
func smear(r *Run) {
	l := r.List()
	l = l[:cap(l)]
	for i := range l {
		l[i] = api.Entry{Key: 9, Value: 9, Gone: true}
	}
	ls := r.Levels()
	ls = ls[:cap(ls)]
	for i, level := range ls {
		level = level[:cap(level)]
		for j := range level {
			level[j] = api.Segment{First: 9, Slope: 9, Intercept: 9, From: 9, To: 9}
		}
		ls[i] = nil
	}
}

// R4: no two lists that come out share memory, of one call or of several, of one run or of two that are alike.
func TestAnswersShareNothing(t *testing.T) {
	next := scatter()
	l := filled(nested(4, 3, 7), 1, next)
	ls := built(t, l, 2)
	a := made(t, l, 2)
	b := taken(t, a.List(), 2, a.Levels())
	for _, r := range []*Run{a, b} {
		list, up := r.List(), r.Levels()
		smear(a)
		smear(b)
		if !slices.Equal(list, l) || !sameLevels(up, ls) {
			t.Fatal("an answer changed with another one")
		}
		for i := range up {
			level := up[i][:cap(up[i])]
			for j := range level {
				level[j] = api.Segment{First: 9, To: 9}
			}
			if i+1 < len(up) && !slices.EqualFunc(up[i+1], ls[i+1], sameSegment) {
				t.Fatal("two levels of one answer share memory")
			}
		}
		tells(t, a, l, 2, ls)
		tells(t, b, l, 2, ls)
	}
}

// P11.7: what a run tells, taken again; and built again, if it was built.
func TestTakenAgain(t *testing.T) {
	next := scatter()
	other := 0
	right(t, func(r *Run, l []api.Entry, eps int, ls [][]api.Segment) {
		qs := asked(l, ls, next)
		alike(t, taken(t, r.List(), r.Eps(), r.Levels()), r, qs)
		again := made(t, r.List(), r.Eps())
		if sameLevels(ls, built(t, l, eps)) {
			alike(t, again, r, qs)
		} else {
			other++
		}
	})
	if other < 100 {
		t.Errorf("runs of other levels than New's: %d", other)
	}
}

// P11.8: each entry is where its key is; Rank never falls; it climbs behind keys alone.
func TestWhereItIs(t *testing.T) {
	next := scatter()
	right(t, func(r *Run, l []api.Entry, eps int, ls [][]api.Segment) {
		for i := range r.Len() {
			e, err := r.At(i)
			got, there := r.Get(e.Key)
			if err != api.OK || !there || got != e || r.Rank(e.Key) != i {
				t.Fatalf("entry %d: %v, %v; Get %v, %v, Rank %d", i, e, err, got, there, r.Rank(e.Key))
			}
		}
		qs := asked(l, ls, next)
		slices.Sort(qs)
		last := 0
		for _, q := range qs {
			rank := r.Rank(q)
			if rank < last || rank > r.Len() {
				t.Fatalf("Rank of %d: %d, behind %d", q, rank, last)
			}
			last = rank
			if q == top {
				continue
			}
			if _, there := r.Get(q); there != (r.Rank(q+1) > rank) || r.Rank(q+1) > rank+1 {
				t.Fatalf("%d: there %v, Ranks %d, %d", q, there, rank, r.Rank(q+1))
			}
		}
	})
}

// counted is a run that counts which keys are asked for: all else is promoted.
type counted struct {
	*Run
	keys map[[2]int]int
}

func (c counted) Key(level, slot int) uint64 {
	c.keys[[2]int{level, slot}]++
	return c.Run.Key(level, slot)
}

// few fails, unless no level was asked for more slots' keys than the bound allows.
func (c counted) few(t *testing.T) {
	t.Helper()
	asked := map[int]int{}
	for at, n := range c.keys {
		asked[at[0]]++
		if n > 1 || asked[at[0]] > 2*c.Eps()+3 || at[1] < 0 || at[1] >= c.Size(at[0]) {
			t.Fatalf("eps %d, level %d, slot %d: asked %d times, of %d keys", c.Eps(), at[0], at[1], n, asked[at[0]])
		}
	}
}

// P11.9: the descent of every run is its Rank and Get, and keeps the bound, on all levels.
func TestBound(t *testing.T) {
	next := scatter()
	under, over, inner := 0, 0, 0
	right(t, func(r *Run, l []api.Entry, eps int, ls [][]api.Segment) {
		below := [][]uint64{keys.Of(l)}
		for _, level := range ls {
			below = append(below, heads(level))
		}
		for _, q := range asked(l, ls, next) {
			c := counted{r, map[[2]int]int{}}
			rank, there := probe.Find(c, q)
			c.few(t)
			plain, _, is := plainRank(l, q)
			if rank != plain || there != is || rank != r.Rank(q) {
				t.Fatalf("Find of %d, eps %d, %d entries: %d, %v, want %d, %v", q, eps, len(l), rank, there, plain, is)
			}
			c = counted{r, map[[2]int]int{}}
			visits := probe.Path(c, q)
			c.few(t)
			if len(visits) != r.Height() {
				t.Fatalf("height %d, %d visits", r.Height(), len(visits))
			}
			for _, v := range visits {
				want, there := slices.BinarySearch(below[v.Level], q)
				off := max(v.Guess-v.Rank, v.Rank-v.Guess)
				if v.Rank != want || off > eps+1 || there && off > eps {
					t.Fatalf("%d, eps %d: %v, of the rank %d, is off by %d", q, eps, v, want, off)
				}
				if v.Rank-v.Guess == eps+1 {
					under++
				}
				if v.Guess-v.Rank == eps {
					over++
				}
				if v.Level > 0 {
					inner++
				}
			}
		}
	})
	if min(under, over, inner) < 50 {
		t.Errorf("just below the bound: %d, just above: %d, above level 0: %d", under, over, inner)
	}
}

// P11.8, P11.9: every q of few keys, in runs of levels that are as loose as they may be.
func TestEveryQuestion(t *testing.T) {
	next := scatter()
	for _, eps := range []int{2, 64} {
		for i := range 60 {
			var ks []uint64
			for k := range uint64(200) {
				if next()%3 == 0 {
					ks = append(ks, k)
				}
			}
			l := filled(ks, i, next)
			ls := laid(t, ks, eps, func() int { return 2 + int(next()%3) })
			for _, r := range []*Run{made(t, l, eps), taken(t, l, eps, loosened(ks, eps, ls, next))} {
				for q := range uint64(210) {
					rank, e, there := plainRank(l, q)
					if got, is := r.Get(q); got != e || is != there || r.Rank(q) != rank {
						t.Fatalf("%d in %v, eps %d: %v, %v, rank %d, want %v, %v, %d", q, l, eps, got, is, r.Rank(q), e, there, rank)
					}
				}
			}
		}
	}
}

// R9: two runs know nothing of one another, and may be asked by many at a time.
func TestAskedByMany(t *testing.T) {
	next := scatter()
	l := filled(nested(4, 4, 7), 3, next)
	r, other := made(t, l, 2), made(t, five, 2)
	done := make(chan bool)
	for range 4 {
		go func() {
			well := true
			for i, e := range l {
				got, there := r.Get(e.Key)
				well = well && there && got == e && r.Rank(e.Key+1) == i+1 && other.Rank(35) == 3
			}
			done <- well
		}()
	}
	for range 4 {
		if !<-done {
			t.Error("an answer changed")
		}
	}
}
