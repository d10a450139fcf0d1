package levels

import (
	"math"
	"slices"
	"testing"

	"incline/api"
	"incline/cut"
	"incline/model"
)

const top = math.MaxUint64

var (
	allEps   = []int{2, 3, 4, 8, 17, 63, 64}
	wrongEps = []int{math.MinInt, math.MinInt + 2, -1 << 32, 2 - 1<<32, -64, -2, -1, 0, 1, 65, 66, 128, 258, 1<<32 + 2, math.MaxInt}
	minus0   = math.Copysign(0, -1)
)

// scatter gives words without a pattern, of all lengths, always the same ones.
func scatter() func() uint64 {
	x := uint64(0x9e3779b97f4a7c15)
	next := func() uint64 {
		x ^= x << 13
		x ^= x >> 7
		x ^= x << 17
		return x
	}
	return func() uint64 { return next() >> (next() % 64) }
}

// streams are rising keys of many kinds, n at most (fewer where the next one would be beyond).
func streams(n int) [][]uint64 {
	next := scatter()
	gaps := []func(i int) uint64{
		func(i int) uint64 { return 1 },
		func(i int) uint64 { return 10 },
		func(i int) uint64 { return top / uint64(n) },
		func(i int) uint64 { return 1 + next()%3 },
		func(i int) uint64 { return 1 + next()%1000 },
		func(i int) uint64 { return 1 + next()%(top/uint64(n)) },
		func(i int) uint64 { return uint64(i + 1) },
		func(i int) uint64 { return uint64(2*n - i) },
		func(i int) uint64 { return uint64(1 + i%7*i%11) },
		func(i int) uint64 { return 1 << 40 / uint64(i+3) },
		func(i int) uint64 { return 1 << min(i/3, 62) },
		func(i int) uint64 { return 1<<30*uint64(i%13/12) + 1 },
		func(i int) uint64 { return 1<<57>>min(i, 57) + 1 },
		func(i int) uint64 { return 1 + 1000*uint64(1-i/15%2) },
		func(i int) uint64 { return 1 + 1<<40*uint64(i%128/127) },
		func(i int) uint64 { return 1 + 1<<40*uint64(i%129/128) },
	}
	var all [][]uint64
	for g, gap := range gaps {
		k := []uint64{0, 7, 1 << 33}[g%3]
		l := []uint64{k}
		for i := 1; i < n; i++ {
			d := gap(i)
			if d > top-k {
				l = append(l, top)
				break
			}
			k += d
			l = append(l, k)
		}
		all = append(all, l)
	}
	return all
}

// numbers are those from 0 to n - 1, as keys.
func numbers(n int) []uint64 {
	l := make([]uint64, n)
	for i := range l {
		l[i] = uint64(i)
	}
	return l
}

// blocks are keys side by side, in blocks of that many each, far from one another: but the last block, which has so many.
func blocks(count, each, last int) []uint64 {
	var l []uint64
	for b := range count {
		n := each
		if b == count-1 {
			n = last
		}
		for i := range n {
			l = append(l, uint64(b)<<40+uint64(i))
		}
	}
	return l
}

// nested are base^digits keys: blocks of blocks of blocks, each so far from the next one (the more digits, the further) that no line with 2 * eps = base goes on from one to the other, on any level.
func nested(base, digits, bits int) []uint64 {
	l := []uint64{0}
	for d := range digits {
		var more []uint64
		for i := range base {
			for _, k := range l {
				more = append(more, uint64(i)<<(d*bits)+k)
			}
		}
		l = more
	}
	return l
}

// piles are keys with which there are many levels.
func piles() map[int][]uint64 {
	return map[int][]uint64{2: nested(4, 5, 7), 3: nested(6, 4, 9), 8: nested(16, 3, 12), 64: nested(128, 2, 20)}
}

// bases are keys of many kinds, from none on.
func bases(eps int) [][]uint64 {
	all := [][]uint64{nil, {}, {0}, {7}, {top}, {0, top}, {0, 1}, {top - 1, top}, {7, 9}, {10, 20, 30, 40, 50}, {0, 1, 2, 3, 100, 101, 102}}
	all = append(all, streams(6*eps+20)...)
	if l := piles()[eps]; l != nil {
		all = append(all, l, l[:len(l)-1], l[:len(l)/2+1])
	}
	for _, last := range []int{1, 2, eps, 2*eps - 2, 2*eps - 1, 2 * eps} {
		all = append(all, blocks(4, 2*eps, last), numbers(last), blocks(1, 1, last))
	}
	return all
}

// each hands over all bases with all eps.
func each(do func(keys []uint64, eps int)) {
	for _, eps := range allEps {
		for _, keys := range bases(eps) {
			do(keys, eps)
		}
	}
}

// built are the levels over keys that have some, or none.
func built(t *testing.T, keys []uint64, eps int) [][]api.Segment {
	t.Helper()
	l, err := Build(keys, eps)
	if err != api.OK {
		t.Fatalf("Build of %d keys, eps %d: %v", len(keys), eps, err)
	}
	return l
}

// heads are the Firsts of a level.
func heads(level []api.Segment) []uint64 {
	var l []uint64
	for _, s := range level {
		l = append(l, s.First)
	}
	return l
}

// copied are levels like l, that share nothing with them.
func copied(l [][]api.Segment) [][]api.Segment {
	var other [][]api.Segment
	for _, level := range l {
		other = append(other, slices.Clone(level))
	}
	return other
}

// same tells whether two segments are so to the last bit: a -0 is no +0, and NaNs may be alike.
func same(a, b api.Segment) bool {
	return a.First == b.First && a.From == b.From && a.To == b.To && math.Float64bits(a.Slope) == math.Float64bits(b.Slope) && math.Float64bits(a.Intercept) == math.Float64bits(b.Intercept)
}

func sameLevels(a, b [][]api.Segment) bool {
	return slices.EqualFunc(a, b, func(x, y []api.Segment) bool { return slices.EqualFunc(x, y, same) })
}

// laid are levels over keys that Build need not make: each level's slots are cut by size, which answers how many the next stretch has of those that are left.
func laid(t *testing.T, keys []uint64, eps int, size func(left int) int) [][]api.Segment {
	t.Helper()
	var l [][]api.Segment
	for len(keys) > 0 && (len(l) == 0 || len(keys) > 1) {
		var level []api.Segment
		for from := 0; from < len(keys); {
			n := min(size(len(keys)-from), len(keys)-from)
			s, err := model.Of(keys[from:from+n], eps, from)
			if err != api.OK {
				t.Fatalf("no segment over %v: %v", keys[from:from+n], err)
			}
			level = append(level, s)
			from += n
		}
		l = append(l, level)
		keys = heads(level)
	}
	return l
}

// loosened are levels like l, each of whose segments predicts otherwise, as long as it is off by at most eps.
func loosened(keys []uint64, eps int, l [][]api.Segment, next func() uint64) [][]api.Segment {
	l = copied(l)
	for _, level := range l {
		for i, s := range level {
			for range 6 {
				other := s
				other.Intercept += []float64{-64, -2, -1.5, -1, -0.5, 0.5, 1, 1.5, 2, 2.999, 64}[next()%11]
				other.Slope *= []float64{0, 0.5, 0.9, 1, 1, 1, 1.1, 1.5, 2}[next()%9]
				if off, err := model.Off(other, keys[s.From:s.To]); err == api.OK && off <= eps {
					level[i] = other
				}
			}
		}
		keys = heads(level)
	}
	return l
}

// raised are levels like l, with one more, over the root.
func raised(l [][]api.Segment) [][]api.Segment {
	root := l[len(l)-1][0]
	return append(copied(l), []api.Segment{{First: root.First, From: 0, To: 1}})
}

// right hands over levels that are right, those that Build made and others.
func right(t *testing.T, do func(keys []uint64, eps int, l [][]api.Segment)) {
	t.Helper()
	next := scatter()
	each(func(keys []uint64, eps int) {
		l := built(t, keys, eps)
		do(keys, eps, l)
		if len(keys) == 0 {
			return
		}
		do(keys, eps, loosened(keys, eps, l, next))
		if most := MaxHeight(api.MaxRun, eps); len(l) < most {
			do(keys, eps, raised(l))
		}
		short := laid(t, keys, eps, func(int) int { return 2*eps - 1 })
		do(keys, eps, short)
		do(keys, eps, loosened(keys, eps, short, next))
		do(keys, eps, laid(t, keys, eps, func(left int) int { return 2 + int(next()%uint64(2*eps-2)) }))
		do(keys, eps, laid(t, keys, eps, func(left int) int { return max(2, left%(2*eps)) }))
	})
}

// P8.1: level 1 by the stretches of the keys, each further one by those of the Firsts, till there is one segment.
func TestBuildIsCutAndModel(t *testing.T) {
	heights := map[int]int{}
	each(func(keys []uint64, eps int) {
		l := built(t, keys, eps)
		heights[len(l)]++
		if (len(keys) == 0) != (len(l) == 0) {
			t.Fatalf("%d levels over %d keys", len(l), len(keys))
		}
		below := keys
		for i, level := range l {
			if i > 0 && len(below) < 2 {
				t.Fatalf("level %d over %d segments", i+1, len(below))
			}
			ends, err := cut.Ends(below, eps)
			if err != api.OK || len(ends) != len(level) {
				t.Fatalf("eps %d, level %d: %d segments over the stretches %v", eps, i+1, len(level), ends)
			}
			from := 0
			for j, to := range ends {
				s, err := model.Of(below[from:to], eps, from)
				if err != api.OK || !same(s, level[j]) {
					t.Fatalf("eps %d, level %d: %v, want %v", eps, i+1, level[j], s)
				}
				from = to
			}
			below = heads(level)
		}
		if len(l) > 0 && len(below) != 1 {
			t.Fatalf("%d keys, eps %d: %d segments at the top", len(keys), eps, len(below))
		}
	})
	for h := range 6 {
		if heights[h] == 0 {
			t.Errorf("heights: %v", heights)
		}
	}
}

// P8.1: the chapter's examples, and others whose segments can be told by hand.
func TestBuildExamples(t *testing.T) {
	for _, x := range []struct {
		keys []uint64
		eps  int
		want [][]api.Segment
	}{
		{nil, 2, nil},
		{[]uint64{}, 64, nil},
		{[]uint64{10, 20, 30, 40, 50}, 2, [][]api.Segment{{{First: 10, Slope: 0.05, Intercept: 1, From: 0, To: 5}}}},
		{[]uint64{0, 1, 2, 3, 100, 101, 102}, 2, [][]api.Segment{
			{{First: 0, Slope: 1.0 / 3, Intercept: 1, From: 0, To: 4}, {First: 100, Slope: 0, Intercept: 5, From: 4, To: 7}},
			{{First: 0, Slope: 0, Intercept: 0, From: 0, To: 2}}}},
		{[]uint64{0, 1, 2, 3, 100, 101, 102}, 64, [][]api.Segment{{{First: 0, Intercept: -57, From: 0, To: 7}}}},
		{[]uint64{7}, 2, [][]api.Segment{{{First: 7, Intercept: -1, From: 0, To: 1}}}},
		{[]uint64{0}, 64, [][]api.Segment{{{First: 0, Intercept: -63, From: 0, To: 1}}}},
		{[]uint64{top}, 2, [][]api.Segment{{{First: top, Intercept: -1, From: 0, To: 1}}}},
		{[]uint64{0, top}, 2, [][]api.Segment{{{First: 0, Intercept: 0, From: 0, To: 2}}}},
		{[]uint64{0, 1, 2, top}, 2, [][]api.Segment{{{First: 0, Slope: 0x1p-64, Intercept: 1, From: 0, To: 4}}}},
		{[]uint64{0, 1, 2, 3, top}, 2, [][]api.Segment{
			{{First: 0, Slope: 1.0 / 3, Intercept: 1, From: 0, To: 4}, {First: top, Intercept: 3, From: 4, To: 5}},
			{{First: 0, Slope: 0, Intercept: 0, From: 0, To: 2}}}},
	} {
		if l, err := Build(x.keys, x.eps); err != api.OK || !sameLevels(l, x.want) {
			t.Errorf("Build(%v, %d): %v, %v, want %v", x.keys, x.eps, l, err, x.want)
		}
	}
}

// P8.1: how many levels there are.
func TestBuildHeights(t *testing.T) {
	for _, x := range []struct {
		keys []uint64
		eps  int
		want []int
	}{
		{numbers(1), 2, []int{1}},
		{numbers(100000), 2, []int{1}},
		{nested(4, 1, 7), 2, []int{1}},
		{nested(4, 2, 7), 2, []int{4, 1}},
		{nested(4, 2, 7)[:5], 2, []int{2, 1}},
		{nested(4, 6, 7), 2, []int{1024, 256, 64, 16, 4, 1}},
		{nested(4, 6, 7)[:4095], 2, []int{1024, 256, 64, 16, 4, 1}},
		{nested(4, 6, 7)[:1025], 2, []int{257, 65, 17, 5, 2, 1}},
		{nested(128, 2, 20), 64, []int{128, 1}},
		{append(nested(128, 2, 20), 1<<40, 1<<40+1), 64, []int{129, 2, 1}},
	} {
		var got []int
		for _, level := range built(t, x.keys, x.eps) {
			got = append(got, len(level))
		}
		if !slices.Equal(got, x.want) {
			t.Errorf("%d keys, eps %d: levels of %v segments, want %v", len(x.keys), x.eps, got, x.want)
		}
	}
}

// fallen are keys that do not rise.
func fallen() [][]uint64 {
	long := nested(4, 4, 7)
	long[255] = long[254]
	return [][]uint64{{3, 3}, {0, 0}, {4, 3}, {top, 0}, {top, top}, {1, 2, 2}, {2, 1, 3}, {0, 1, 2, 3, 100, 101, 100}, {0, 1, 2, 3, 3, 100}, long}
}

// P8.1: wrong inputs, an eps ahead of the keys.
func TestBuildRefuses(t *testing.T) {
	refused := func(keys []uint64, eps int, want api.Errno) {
		t.Helper()
		if l, err := Build(keys, eps); len(l) != 0 || err != want {
			t.Errorf("Build(%v, %d): %v, %v, want %v", keys, eps, l, err, want)
		}
	}
	for _, eps := range wrongEps {
		for _, keys := range append(fallen(), nil, []uint64{}, []uint64{7}, numbers(10), nested(4, 3, 7)) {
			refused(keys, eps, api.ErrArg)
		}
	}
	for _, eps := range allEps {
		for _, keys := range fallen() {
			refused(keys, eps, api.ErrLevelsOrder)
		}
	}
	for eps := -300; eps < 300; eps++ {
		want := api.OK
		if eps < 2 || eps > 64 {
			want = api.ErrArg
		}
		if _, err := Build([]uint64{1, 5, 9}, eps); err != want {
			t.Errorf("Build with eps %d: %v, want %v", eps, err, want)
		}
		if err := Check(nil, eps, nil); err != want {
			t.Errorf("Check with eps %d: %v, want %v", eps, err, want)
		}
	}
}

// plainCheck is Check by the promise's own words.
func plainCheck(keys []uint64, eps int, l [][]api.Segment) api.Errno {
	if eps < 2 || eps > 64 {
		return api.ErrArg
	}
	for i := 1; i < len(keys); i++ {
		if keys[i-1] >= keys[i] {
			return api.ErrLevelsOrder
		}
	}
	if len(l) > plainHeight(1<<32, eps) || len(l) == 0 && len(keys) > 0 || len(l) > 0 && len(keys) == 0 {
		return api.ErrLevelsHigh
	}
	for _, level := range l {
		if err := plainTile(len(keys), level); err != api.OK {
			return err
		}
		for _, s := range level {
			if err := plainSegment(keys, eps, s); err != api.OK {
				return err
			}
		}
		keys = heads(level)
	}
	if len(l) > 0 && len(l[len(l)-1]) > 1 {
		return api.ErrLevelsRoot
	}
	return api.OK
}

func plainTile(n int, level []api.Segment) api.Errno {
	if len(level) == 0 || level[0].From != 0 || level[len(level)-1].To != n {
		return api.ErrLevelsTile
	}
	for i, s := range level {
		if s.To <= s.From || i > 0 && level[i-1].To != s.From {
			return api.ErrLevelsTile
		}
	}
	return api.OK
}

func plainSegment(keys []uint64, eps int, s api.Segment) api.Errno {
	if err := model.Check(s); err != api.OK {
		return err
	}
	if s.First != keys[s.From] {
		return api.ErrLevelsFirst
	}
	for i := s.From; i < s.To; i++ {
		if by := model.Guess(s, keys[i]) - i; by > eps || by < -eps {
			return api.ErrLevelsBound
		}
	}
	return api.OK
}

// plainHeight is MaxHeight by counting: how often n must be brought down.
func plainHeight(n, eps int) int {
	h := 1
	for n >= 2*eps {
		n = 1 + (n-n%eps)/eps
		h++
	}
	return h
}

// P8.2: the chapter's examples, and the edges about them.
func TestCheckExamples(t *testing.T) {
	type levels = [][]api.Segment
	seven := []uint64{7}
	one := api.Segment{First: 7, To: 1}
	for _, x := range []struct {
		keys []uint64
		l    levels
		want api.Errno
	}{
		{nil, nil, api.OK},
		{[]uint64{}, levels{}, api.OK},
		{seven, nil, api.ErrLevelsHigh},
		{seven, levels{}, api.ErrLevelsHigh},
		{nil, levels{{}}, api.ErrLevelsHigh},
		{nil, levels{nil}, api.ErrLevelsHigh},
		{[]uint64{}, levels{{one}}, api.ErrLevelsHigh},
		{seven, levels{{one}}, api.OK},
		{seven, levels{nil}, api.ErrLevelsTile},
		{seven, levels{{}}, api.ErrLevelsTile},
		{seven, levels{{one}, {}}, api.ErrLevelsTile},
		{seven, levels{{one}, nil, {one}}, api.ErrLevelsTile},
		{seven, levels{{one}, {one}}, api.OK},
		{seven, levels{{one, {First: 7, From: 1, To: 1}}}, api.ErrLevelsTile},
		{seven, levels{{{First: 7, From: 0, To: 0}, one}}, api.ErrLevelsTile},
		{seven, levels{{{First: 7, To: 2}}}, api.ErrLevelsTile},
		{seven, levels{{{First: 7, To: 0}}}, api.ErrLevelsTile},
		{seven, levels{{{First: 7, From: -1, To: 1}}}, api.ErrLevelsTile},
		{seven, levels{{{First: 7, From: 1, To: 1}}}, api.ErrLevelsTile},
		{seven, levels{{{First: 7, From: 1, To: 2}}}, api.ErrLevelsTile},
		{seven, levels{{{First: 8, To: 1}}}, api.ErrLevelsFirst},
		{seven, levels{{{First: 6, To: 1}}}, api.ErrLevelsFirst},
		{seven, levels{{one}, {{First: 6, To: 1}}}, api.ErrLevelsFirst},
		{seven, levels{{{First: 7, Slope: 3, To: 1}}}, api.ErrModelSlope},
		{[]uint64{0, 1, 2, 3, 4, 5}, levels{{{First: 0, To: 6}}}, api.ErrLevelsBound},
		{[]uint64{0, 1, 2}, levels{{{First: 0, To: 3}}}, api.OK},
		{[]uint64{0, 1, 2, 3}, levels{{{First: 0, To: 4}}}, api.ErrLevelsBound},
		{[]uint64{0, 1, 2, 3}, levels{{{First: 0, Intercept: 4, To: 4}}}, api.ErrLevelsBound},
		{[]uint64{0, 1}, levels{{{First: 0, Intercept: 1e300, To: 2}}}, api.OK},
		{[]uint64{7, 9}, levels{{one, {First: 9, From: 1, To: 2}}}, api.ErrLevelsRoot},
		{[]uint64{7, 9}, levels{{one, {First: 9, From: 1, To: 2}}, {{First: 7, To: 2}}}, api.OK},
		{[]uint64{7, 9}, levels{{one, {First: 9, From: 1, To: 2}}, {one, {First: 9, From: 1, To: 2}}}, api.ErrLevelsRoot},
		{[]uint64{7, 9}, levels{{one, {First: 9, From: 1, To: 2}}, {one, {First: 9, From: 1, To: 2}}, {{First: 7, To: 2}}}, api.OK},
		{[]uint64{0, top}, levels{{{First: 0, To: 1}, {First: top, From: 1, To: 2}}, {{First: 0, To: 2}}}, api.OK},
		{[]uint64{9, 7}, nil, api.ErrLevelsOrder},
		{[]uint64{7, 7}, levels{{{First: 7, To: 2}}}, api.ErrLevelsOrder},
		{seven, make(levels, 33), api.ErrLevelsHigh},
		{nil, make(levels, 33), api.ErrLevelsHigh},
		{seven, make(levels, 32), api.ErrLevelsTile},
	} {
		if err := Check(x.keys, 2, x.l); err != x.want {
			t.Errorf("Check(%v, 2, %v): %v, want %v", x.keys, x.l, err, x.want)
		}
		if err := plainCheck(x.keys, 2, x.l); err != x.want {
			t.Errorf("by the words: Check(%v, 2, %v): %v, want %v", x.keys, x.l, err, x.want)
		}
	}
}

// P8.2: as many levels as there may be, and one more.
func TestCheckHigh(t *testing.T) {
	for _, x := range []struct{ eps, most int }{{2, 32}, {3, 20}, {4, 16}, {8, 11}, {64, 6}} {
		l := built(t, []uint64{7}, x.eps)
		for len(l) < x.most {
			if err := Check([]uint64{7}, x.eps, l); err != api.OK {
				t.Errorf("eps %d, %d levels: %v", x.eps, len(l), err)
			}
			l = raised(l)
		}
		if err := Check([]uint64{7}, x.eps, l); err != api.OK {
			t.Errorf("eps %d, %d levels: %v", x.eps, len(l), err)
		}
		for range 3 {
			l = raised(l)
			if err := Check([]uint64{7}, x.eps, l); err != api.ErrLevelsHigh {
				t.Errorf("eps %d, %d levels: %v", x.eps, len(l), err)
			}
		}
		l[0] = nil // the height is asked ahead of the tiles
		if err := Check([]uint64{7}, x.eps, l); err != api.ErrLevelsHigh {
			t.Errorf("eps %d, %d levels, the first one empty: %v", x.eps, len(l), err)
		}
	}
}

// wrongs change the segment j of a level, so that it is wrong in some way, or still right; not all of them can be done everywhere.
func wrongs() []func(level []api.Segment, j int) []api.Segment {
	edit := func(change func(s *api.Segment)) func(level []api.Segment, j int) []api.Segment {
		return func(level []api.Segment, j int) []api.Segment {
			change(&level[j])
			return level
		}
	}
	bound := func(by int) func(level []api.Segment, j int) []api.Segment {
		return func(level []api.Segment, j int) []api.Segment {
			if j > 0 {
				level[j-1].To += by
			}
			level[j].From += by
			return level
		}
	}
	all := []func(level []api.Segment, j int) []api.Segment{
		bound(1), bound(-1), // no gap: but another First
		func(level []api.Segment, j int) []api.Segment { return slices.Delete(level, j, j+1) },
		func(level []api.Segment, j int) []api.Segment { return slices.Insert(level, j, level[j]) },
		func(level []api.Segment, j int) []api.Segment { return level[:j] },
		func(level []api.Segment, j int) []api.Segment { return nil },
		func(level []api.Segment, j int) []api.Segment {
			return slices.Insert(level, j, api.Segment{First: level[j].First, From: level[j].From, To: level[j].From})
		},
		func(level []api.Segment, j int) []api.Segment {
			return slices.Insert(level, j+1, api.Segment{First: level[j].First, From: level[j].To, To: level[j].To})
		},
		func(level []api.Segment, j int) []api.Segment {
			level[j], level[0] = level[0], level[j]
			return level
		},
	}
	for _, by := range []int{-1, 1, math.MinInt, math.MaxInt, 1 << 32} {
		all = append(all, edit(func(s *api.Segment) { s.From += by }), edit(func(s *api.Segment) { s.To += by }))
	}
	all = append(all, edit(func(s *api.Segment) { s.To = s.From }), edit(func(s *api.Segment) { s.From, s.To = s.To, s.From }))
	for _, slope := range []float64{math.NaN(), minus0, -1, math.Nextafter(2, 3), math.Inf(1), 2, 0} {
		all = append(all, edit(func(s *api.Segment) { s.Slope = slope }))
	}
	for _, intercept := range []float64{math.NaN(), math.Inf(1), math.Inf(-1), minus0, math.MaxFloat64, -math.MaxFloat64} {
		all = append(all, edit(func(s *api.Segment) { s.Intercept = intercept }))
	}
	for _, by := range []float64{-200, -3, -1, -0.5, 0.5, 1, 3, 200} {
		all = append(all, edit(func(s *api.Segment) { s.Intercept += by }))
	}
	return append(all, edit(func(s *api.Segment) { s.First++ }), edit(func(s *api.Segment) { s.First-- }), edit(func(s *api.Segment) { s.First = top }))
}

// spots are some slots of a list: its ends, and some between.
func spots(n int, next func() uint64) []int {
	l := []int{0, n - 1, n / 2, int(next() % uint64(n))}
	slices.Sort(l)
	return slices.Compact(l)
}

// damaged hands over levels that were right, with one thing changed, and with two: on all levels.
func damaged(t *testing.T, do func(keys []uint64, eps int, l [][]api.Segment, at int)) {
	t.Helper()
	next := scatter()
	all := wrongs()
	for _, eps := range []int{2, 3, 8, 64} {
		some := nested(2*eps, 2, 20)
		some = some[:min(len(some), 1000)]
		for _, keys := range [][]uint64{{7}, {0, top}, numbers(3 * eps), blocks(3, 2*eps, eps), some, nested(4, 4, 9), streams(5*eps + 20)[5], append(some, 1<<42, top)} {
			for _, l := range [][][]api.Segment{built(t, keys, eps), laid(t, keys, eps, func(int) int { return 2*eps - 1 }), laid(t, keys, eps, func(int) int { return 2 })} {
				for at := range l {
					for _, j := range spots(len(l[at]), next) {
						for _, wrong := range all {
							once := copied(l)
							once[at] = wrong(once[at], j)
							do(keys, eps, once, at)
							more := int(next() % uint64(len(l)))
							if n := len(once[more]); n > 0 {
								once[more] = all[next()%uint64(len(all))](once[more], int(next()%uint64(n)))
								do(keys, eps, once, min(at, more))
							}
						}
					}
				}
				for at := range l {
					do(keys, eps, l[:at], at)
				}
			}
		}
	}
}

// P8.2: of levels with something wrong in them, on any level, Check tells the first error by the promise's words.
func TestCheckDamaged(t *testing.T) {
	type found struct {
		err   api.Errno
		above bool
	}
	seen := map[found]int{}
	damaged(t, func(keys []uint64, eps int, l [][]api.Segment, at int) {
		want := plainCheck(keys, eps, l)
		seen[found{want, at > 0}]++
		if err := Check(keys, eps, l); err != want {
			t.Fatalf("Check of %d keys, eps %d, changed on level %d of %d: %v, want %v", len(keys), eps, at+1, len(l), err, want)
		}
	})
	for _, err := range []api.Errno{api.OK, api.ErrLevelsTile, api.ErrModelSlope, api.ErrModelIntercept, api.ErrLevelsFirst, api.ErrLevelsBound} {
		for _, above := range []bool{false, true} {
			if seen[found{err, above}] < 20 {
				t.Errorf("error %d, above level 1 %v: %d times", err, above, seen[found{err, above}])
			}
		}
	}
	if seen[found{api.ErrLevelsRoot, true}] < 20 || seen[found{api.ErrLevelsHigh, false}] < 20 {
		t.Errorf("seen: %v", seen)
	}
}

// P8.2: what is wrong with a level of three, by hand: on level 1, and on level 2.
func TestCheckOneLevel(t *testing.T) {
	keys := nested(4, 3, 7)[:40]
	whole := built(t, keys, 2) // 10, 3 and 1 segments
	if len(whole) != 3 || len(whole[0]) != 10 || len(whole[1]) != 3 {
		t.Fatal(whole)
	}
	for at := range 2 {
		for _, x := range []struct {
			name   string
			change func(level []api.Segment) []api.Segment
			want   api.Errno
		}{
			{"nothing", func(l []api.Segment) []api.Segment { return l }, api.OK},
			{"none", func(l []api.Segment) []api.Segment { return nil }, api.ErrLevelsTile},
			{"begins late", func(l []api.Segment) []api.Segment { l[0].From = 1; return l }, api.ErrLevelsTile},
			{"begins too early", func(l []api.Segment) []api.Segment { l[0].From = -1; return l }, api.ErrLevelsTile},
			{"without the first", func(l []api.Segment) []api.Segment { return l[1:] }, api.ErrLevelsTile},
			{"a gap", func(l []api.Segment) []api.Segment { l[1].From++; return l }, api.ErrLevelsTile},
			{"a gap ahead", func(l []api.Segment) []api.Segment { l[0].To--; return l }, api.ErrLevelsTile},
			{"overlapping", func(l []api.Segment) []api.Segment { l[1].From--; return l }, api.ErrLevelsTile},
			{"overlapping behind", func(l []api.Segment) []api.Segment { l[0].To++; return l }, api.ErrLevelsTile},
			{"twice", func(l []api.Segment) []api.Segment { return slices.Insert(l, 1, l[1]) }, api.ErrLevelsTile},
			{"without the last", func(l []api.Segment) []api.Segment { return l[:len(l)-1] }, api.ErrLevelsTile},
			{"ends early", func(l []api.Segment) []api.Segment { l[len(l)-1].To--; return l }, api.ErrLevelsTile},
			{"ends late", func(l []api.Segment) []api.Segment { l[len(l)-1].To++; return l }, api.ErrLevelsTile},
			{"ends far behind", func(l []api.Segment) []api.Segment { l[len(l)-1].To = math.MaxInt; return l }, api.ErrLevelsTile},
			{"a To that is From", func(l []api.Segment) []api.Segment {
				return slices.Insert(l, 1, api.Segment{First: l[1].First, From: l[1].From, To: l[1].From})
			}, api.ErrLevelsTile},
			{"a To below From, and back", func(l []api.Segment) []api.Segment {
				return slices.Insert(l, 1, api.Segment{First: l[1].First, From: 4, To: 3}, api.Segment{First: l[1].First, From: 3, To: 4})
			}, api.ErrLevelsTile},
			{"a slope of -0", func(l []api.Segment) []api.Segment { l[2].Slope = minus0; return l }, api.ErrModelSlope},
			{"a steep slope", func(l []api.Segment) []api.Segment { l[0].Slope = 2.5; return l }, api.ErrModelSlope},
			{"an endless intercept", func(l []api.Segment) []api.Segment { l[2].Intercept = math.Inf(-1); return l }, api.ErrModelIntercept},
			{"slope and intercept", func(l []api.Segment) []api.Segment {
				l[2].Intercept, l[2].Slope = math.NaN(), math.NaN()
				return l
			}, api.ErrModelSlope},
			{"another First", func(l []api.Segment) []api.Segment { l[1].First++; return l }, api.ErrLevelsFirst},
			{"the next slot's First", func(l []api.Segment) []api.Segment { l[0].First = 1 << (7 * at); return l }, api.ErrLevelsFirst},
			{"too low", func(l []api.Segment) []api.Segment { l[1].Slope, l[1].Intercept = 0, 0; return l }, api.ErrLevelsBound},
			{"too high", func(l []api.Segment) []api.Segment { l[1].Intercept += 3; return l }, api.ErrLevelsBound},
			// Several at once: the tiles of a whole level, then segment by segment, each from its floats to its bound.
			{"the first one's floats, the last one's tile", func(l []api.Segment) []api.Segment {
				l[0].Slope = 3
				l[len(l)-1].To++
				return l
			}, api.ErrLevelsTile},
			{"the first one's bound, the next one's floats", func(l []api.Segment) []api.Segment {
				l[0].Intercept += 100
				l[1].Slope = 3
				return l
			}, api.ErrLevelsBound},
			{"the first one's bound, the next one's First", func(l []api.Segment) []api.Segment {
				l[0].Intercept += 100
				l[1].First++
				return l
			}, api.ErrLevelsBound},
			{"First and floats", func(l []api.Segment) []api.Segment {
				l[1].First++
				l[1].Intercept = math.NaN()
				return l
			}, api.ErrModelIntercept},
			{"First and bound", func(l []api.Segment) []api.Segment {
				l[1].First++
				l[1].Intercept += 100
				return l
			}, api.ErrLevelsFirst},
		} {
			l := copied(whole)
			l[at] = x.change(l[at])
			if err := Check(keys, 2, l); err != x.want {
				t.Errorf("level %d, %s: %v, want %v", at+1, x.name, err, x.want)
			}
			if x.want == api.OK {
				continue
			}
			// A level that is wrong is told ahead of those above it, and of the root.
			l[2] = nil
			if err := Check(keys, 2, l); err != x.want {
				t.Errorf("level %d, %s, and no root: %v, want %v", at+1, x.name, err, x.want)
			}
			if err := Check(keys, 2, l[:at+1]); err != x.want {
				t.Errorf("level %d, %s, the topmost: %v, want %v", at+1, x.name, err, x.want)
			}
			if err := Check(append(slices.Clone(keys), 0), 2, l); err != api.ErrLevelsOrder {
				t.Errorf("level %d, %s, and keys that fall: %v", at+1, x.name, err)
			}
			if err := Check(append(slices.Clone(keys), 0), 1, l); err != api.ErrArg {
				t.Errorf("level %d, %s, keys that fall, eps 1: %v", at+1, x.name, err)
			}
		}
		if err := Check(keys, 2, whole[:at+1]); err != api.ErrLevelsRoot {
			t.Errorf("%d levels of three: %v", at+1, err)
		}
		l := copied(whole)
		l[at][1].Intercept += 100
		l[1-at] = nil
		if err, want := Check(keys, 2, l), []api.Errno{api.ErrLevelsBound, api.ErrLevelsTile}[at]; err != want {
			t.Errorf("both levels wrong: %v, want %v", err, want)
		}
	}
}

// P8.2: an eps that may not be, and keys that do not rise, whatever the levels are.
func TestCheckRefuses(t *testing.T) {
	some := [][][]api.Segment{nil, {}, {nil}, {{}}, {{{First: 3, To: 2}}}, make([][]api.Segment, 100), built(t, []uint64{3, 4}, 2)}
	for _, l := range some {
		for _, eps := range wrongEps {
			for _, keys := range append(fallen(), nil, []uint64{}, []uint64{3, 4}) {
				if err := Check(keys, eps, l); err != api.ErrArg {
					t.Errorf("Check(%v, %d, %v): %v", keys, eps, l, err)
				}
			}
		}
		for _, eps := range allEps {
			for _, keys := range fallen() {
				if err := Check(keys, eps, l); err != api.ErrLevelsOrder {
					t.Errorf("Check(%v, %d, %v): %v", keys, eps, l, err)
				}
			}
		}
	}
}

// P8.2: the bound of one eps is not that of another one: off by just eps is right, off by one more is not.
func TestCheckBoundIsEps(t *testing.T) {
	for eps := api.MinEps; eps <= api.MaxEps; eps++ {
		for _, x := range []struct {
			n         int
			intercept float64
			want      api.Errno
		}{
			{eps + 1, 0, api.OK}, {eps + 2, 0, api.ErrLevelsBound}, // the last one is predicted at 0
			{2*eps + 1, float64(eps), api.OK}, {2*eps + 2, float64(eps), api.ErrLevelsBound}, {2*eps + 2, float64(eps) + 1, api.ErrLevelsBound},
			{2*eps + 1, float64(eps) + 0.999, api.OK}, {eps, 1000, api.OK}, {eps + 1, 1000, api.ErrLevelsBound},
		} {
			if err := Check(numbers(x.n), eps, [][]api.Segment{{{First: 0, Intercept: x.intercept, To: x.n}}}); err != x.want {
				t.Errorf("eps %d, %d keys predicted at %v: %v, want %v", eps, x.n, x.intercept, err, x.want)
			}
		}
	}
}

// P8.3: the chapter's examples, and the edges about them.
func TestMaxHeightExamples(t *testing.T) {
	for _, x := range []struct{ n, eps, want int }{
		{0, 2, 0}, {3, 2, 1}, {4, 2, 2}, {100, 2, 7}, {1 << 32, 2, 32}, {1 << 32, 64, 6}, {9, 1, 0},
		{1, 2, 1}, {2, 2, 1}, {5, 2, 2}, {6, 2, 3}, {7, 2, 3}, {8, 2, 3}, {9, 2, 3}, {10, 2, 4}, {1, 64, 1}, {127, 64, 1}, {128, 64, 2}, {129, 64, 2}, {5, 3, 1}, {6, 3, 2}, {9, 65, 0},
		{-1, 2, 0}, {-5, 64, 0}, {math.MinInt, 2, 0}, {math.MaxInt, 1, 0}, {math.MaxInt, 2, 63}, {math.MaxInt, 64, 11},
	} {
		if h := MaxHeight(x.n, x.eps); h != x.want {
			t.Errorf("MaxHeight(%d, %d): %d, want %d", x.n, x.eps, h, x.want)
		}
	}
}

// P8.3
func TestMaxHeight(t *testing.T) {
	next := scatter()
	for eps := -3; eps < 300; eps++ {
		ns := []int{math.MinInt, -1 << 32, -64, -1, 0, 1, 2, eps, eps + 1, 2*eps - 2, 2*eps - 1, 2 * eps, 2*eps + 1, eps * eps, 2*eps*eps - 1, 2 * eps * eps, 1<<32 - 1, 1 << 32, 1<<32 + 1, math.MaxInt - 1, math.MaxInt}
		for range 100 {
			ns = append(ns, int(next()))
		}
		for _, n := range ns {
			want := 0
			if n > 0 && eps >= 2 && eps <= 64 {
				want = plainHeight(n, eps)
			}
			if h := MaxHeight(n, eps); h != want {
				t.Errorf("MaxHeight(%d, %d): %d, want %d", n, eps, h, want)
			}
		}
	}
	for _, eps := range wrongEps {
		for _, n := range []int{math.MinInt, -1, 0, 1, 3, 1 << 32, math.MaxInt} {
			if h := MaxHeight(n, eps); h != 0 {
				t.Errorf("MaxHeight(%d, %d): %d", n, eps, h)
			}
		}
	}
}

// P8.4, and P8.2 of levels that Build did not make.
func TestCheckTakesRight(t *testing.T) {
	others := 0
	right(t, func(keys []uint64, eps int, l [][]api.Segment) {
		if err := Check(keys, eps, l); err != api.OK {
			t.Fatalf("Check of %d keys, eps %d, %d levels: %v", len(keys), eps, len(l), err)
		}
		if !sameLevels(l, built(t, keys, eps)) {
			others++
		}
	})
	if others < 500 {
		t.Errorf("%d that Build did not make", others)
	}
}

// P8.4: with every eps.
func TestBuiltIsRight(t *testing.T) {
	for eps := api.MinEps; eps <= api.MaxEps; eps++ {
		for _, keys := range bases(eps) {
			if err := Check(keys, eps, built(t, keys, eps)); err != api.OK {
				t.Fatalf("Check of what was built of %d keys, eps %d: %v", len(keys), eps, err)
			}
		}
	}
}

// P8.5
func TestFewAndLow(t *testing.T) {
	full := 0
	each(func(keys []uint64, eps int) {
		l := built(t, keys, eps)
		if most := MaxHeight(len(keys), eps); len(l) > most {
			t.Errorf("%d keys, eps %d: %d levels, more than %d", len(keys), eps, len(l), most)
		} else if len(l) == most {
			full++
		}
		slots := len(keys)
		for i, level := range l {
			for j, s := range level {
				if j < len(level)-1 && s.To-s.From < 2*eps-1 {
					t.Errorf("eps %d, level %d: %v covers %d slots", eps, i+1, s, s.To-s.From)
				}
			}
			if len(level) > slots/eps+1 {
				t.Errorf("eps %d, level %d: %d segments over %d slots", eps, i+1, len(level), slots)
			}
			slots = len(level)
		}
	})
	if full < 50 {
		t.Errorf("as high as there can be: %d times", full)
	}
}

// asked are keys to ask for: about each of some keys, and at both ends of all that may be.
func asked(keys []uint64, next func() uint64) []uint64 {
	l := []uint64{0, 1, top - 1, top}
	step := max(1, len(keys)/300)
	for i := int(next() % uint64(step)); i < len(keys); i += step {
		k := keys[i]
		room := top - k
		if i+1 < len(keys) {
			room = keys[i+1] - k - 1
		}
		l = append(l, k, k-min(k, 1), k+min(room, 1), k+room/2, k+room)
	}
	return append(l, next(), next())
}

// off is by how much the segment that is asked for q on a level predicts another place than the rank, and whether q is one of the keys below.
func off(below []uint64, level []api.Segment, q uint64) (int, bool) {
	s := level[0]
	for _, other := range level {
		if other.First <= q {
			s = other
		}
	}
	rank, there := slices.BinarySearch(below, q)
	by := model.Guess(s, q) - rank
	return max(by, -by), there
}

// P8.6
func TestBound(t *testing.T) {
	next := scatter()
	more, atKeys := map[int]int{}, map[int]int{}
	hold := func(keys []uint64, eps int, l [][]api.Segment) {
		for _, q := range asked(keys, next) {
			below := keys
			for i, level := range l {
				by, there := off(below, level, q)
				if by > eps+1 || there && by > eps {
					t.Fatalf("eps %d, level %d, %d: off by %d", eps, i+1, q, by)
				}
				if by == eps+1 {
					more[min(i, 1)]++
				}
				if there && by == eps {
					atKeys[min(i, 1)]++
				}
				below = heads(level)
			}
		}
	}
	count := 0
	right(t, func(keys []uint64, eps int, l [][]api.Segment) {
		if count++; count%2 == 0 {
			hold(keys, eps, l)
		}
	})
	damaged(t, func(keys []uint64, eps int, l [][]api.Segment, at int) {
		if Check(keys, eps, l) != api.OK {
			return
		}
		if count++; count%8 == 0 {
			hold(keys, eps, l)
		}
	})
	if min(more[0], more[1], atKeys[0], atKeys[1]) < 10 {
		t.Errorf("off by eps + 1: %v, by eps at keys: %v times", more, atKeys)
	}
}

// P8.7
func TestTakenApart(t *testing.T) {
	apart := 0
	right(t, func(keys []uint64, eps int, l [][]api.Segment) {
		for len(l) > 1 {
			keys, l = heads(l[0]), l[1:]
			apart++
			if err := Check(keys, eps, l); err != api.OK {
				t.Fatalf("Check of %d Firsts, eps %d, %d levels: %v", len(keys), eps, len(l), err)
			}
		}
	})
	damaged(t, func(keys []uint64, eps int, l [][]api.Segment, at int) {
		if len(l) < 2 || Check(keys, eps, l) != api.OK {
			return
		}
		apart++
		if err := Check(heads(l[0]), eps, l[1:]); err != api.OK {
			t.Fatalf("Check of %d Firsts, eps %d, %d levels: %v", len(l[0]), eps, len(l)-1, err)
		}
	})
	if apart < 1000 {
		t.Errorf("taken apart %d times", apart)
	}
}

// P8.7: what was built over the Firsts is what is above level 1.
func TestBuiltApart(t *testing.T) {
	each(func(keys []uint64, eps int) {
		l := built(t, keys, eps)
		if len(l) > 1 && !sameLevels(l[1:], built(t, heads(l[0]), eps)) {
			t.Errorf("%d keys, eps %d: other levels over the Firsts", len(keys), eps)
		}
	})
}

// P8.8: down to 0, up to the greatest key, and between.
func TestMoved(t *testing.T) {
	next := scatter()
	each(func(keys []uint64, eps int) {
		if len(keys) == 0 {
			return
		}
		l := built(t, keys, eps)
		room := top - keys[len(keys)-1] + keys[0]
		for _, to := range []uint64{0, 1, room / 2, room, next() % max(room, 1)} {
			to = min(to, room)
			moved := slices.Clone(keys)
			for i := range moved {
				moved[i] = moved[i] - keys[0] + to
			}
			want := copied(l)
			for _, level := range want {
				for j := range level {
					level[j].First = level[j].First - keys[0] + to
				}
			}
			if !sameLevels(built(t, moved, eps), want) {
				t.Fatalf("%d keys, eps %d, moved to %d: other levels", len(keys), eps, to)
			}
		}
	})
}

// R4: what is handed in stays as it was, what it has behind its length is not read, and what comes out is new memory.
func TestArgumentsStay(t *testing.T) {
	room := append(nested(4, 3, 7), 3, 3, top, 0)
	was := slices.Clone(room)
	keys := room[:64]
	l := built(t, keys, 2)
	if !sameLevels(l, built(t, nested(4, 3, 7), 2)) {
		t.Errorf("%v", l)
	}
	wide := copied(l)
	for i := range wide {
		wide[i] = append(wide[i], api.Segment{First: 1, Slope: -1, From: 9, To: 3})[:len(wide[i])]
	}
	wide = append(wide, []api.Segment{{To: -1}})[:len(wide)]
	before := copied(wide)
	if err := Check(keys, 2, wide); err != api.OK {
		t.Error(err)
	}
	if !sameLevels(wide, before) || !sameLevels(wide[:4], append(before, []api.Segment{{To: -1}})) || wide[0][:17][16].From != 9 || !slices.Equal(room, was) {
		t.Error("an argument changed")
	}
	again := built(t, keys, 2)
	for i := range l {
		l[i] = l[i][:cap(l[i])]
		for j := range l[i] {
			l[i][j] = api.Segment{First: 99, To: 99}
		}
		for k := i + 1; k < len(l); k++ {
			if !slices.EqualFunc(l[k], again[k], same) {
				t.Errorf("levels %d and %d share memory", i+1, k+1)
			}
		}
	}
	for i := range l[:cap(l)] {
		l[:cap(l)][i] = nil
	}
	if !sameLevels(again, before) || !slices.Equal(room, was) {
		t.Error("what came out is not new")
	}
}
