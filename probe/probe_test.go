package probe

import (
	"math"
	"slices"
	"testing"

	"incline/api"
	"incline/keys"
	"incline/levels"
	"incline/model"
)

const top = math.MaxUint64

var (
	allEps   = []int{2, 3, 8, 17, 63, 64}
	wrongEps = []int{math.MinInt, -64, -2, -1, 0, 1, 65, 128, 1<<32 + 2, math.MaxInt}
	beyond   = []int{math.MinInt, math.MinInt + 1, -1 << 32, -2, -1, 1 << 32, math.MaxInt - 1, math.MaxInt}
	five     = []uint64{10, 20, 30, 40, 50}
	root5    = api.Segment{First: 10, Slope: 0.05, Intercept: 1, From: 0, To: 5}
)

// scatter gives words without a pattern, of all lengths, always the same ones.
func scatter() func() uint64 {
	x := uint64(0x9e3779b97f4a7c15)
	next := func() uint64 {
		x ^= x << 13
		x ^= x >> 7
		x ^= x << 17
		return x
	}
	return func() uint64 { return next() >> (next() % 64) }
}

// streams are rising keys of many kinds, n at most (fewer where the next one would be beyond).
func streams(n int) [][]uint64 {
	next := scatter()
	gaps := []func(i int) uint64{
		func(i int) uint64 { return 1 },
		func(i int) uint64 { return 10 },
		func(i int) uint64 { return top / uint64(n) },
		func(i int) uint64 { return 1 + next()%3 },
		func(i int) uint64 { return 1 + next()%1000 },
		func(i int) uint64 { return 1 + next()%(top/uint64(n)) },
		func(i int) uint64 { return uint64(i + 1) },
		func(i int) uint64 { return uint64(1 + i%7*i%11) },
		func(i int) uint64 { return 1 << min(i/3, 62) },
		func(i int) uint64 { return 1<<30*uint64(i%13/12) + 1 },
		func(i int) uint64 { return 1<<57>>min(i, 57) + 1 },
		func(i int) uint64 { return 1 + 1000*uint64(1-i/15%2) },
		func(i int) uint64 { return 1 + 1<<40*uint64(i%129/128) },
	}
	var all [][]uint64
	for g, gap := range gaps {
		k := []uint64{0, 7, 1 << 33}[g%3]
		l := []uint64{k}
		for i := 1; i < n; i++ {
			d := gap(i)
			if d > top-k {
				l = append(l, top)
				break
			}
			k += d
			l = append(l, k)
		}
		all = append(all, l)
	}
	return all
}

// nested are base^digits keys: blocks of blocks of blocks, each so far from the next one (the more digits, the further) that no line with 2 * eps = base goes on from one to the other, on any level.
func nested(base, digits, bits int) []uint64 {
	l := []uint64{0}
	for d := range digits {
		var more []uint64
		for i := range base {
			for _, k := range l {
				more = append(more, uint64(i)<<(d*bits)+k)
			}
		}
		l = more
	}
	return l
}

// piled are keys with which there are many levels, for some eps.
func piled(eps int) []uint64 {
	switch eps {
	case 2:
		return nested(4, 5, 7)
	case 3:
		return nested(6, 4, 9)
	case 8:
		return nested(16, 3, 12)
	case 64:
		return nested(128, 2, 20)
	}
	return nil
}

// bases are keys of many kinds, from none on.
func bases(eps int) [][]uint64 {
	all := [][]uint64{nil, {}, {0}, {7}, {top}, {0, top}, {0, 1}, {top - 1, top}, {7, 9}, five, {0, 1, 2, 3, 100, 101, 102}}
	all = append(all, streams(6*eps+20)...)
	if l := piled(eps); l != nil {
		all = append(all, l, l[1:len(l)-1], l[:len(l)/2+1])
	}
	return all
}

// heads are the Firsts of a level.
func heads(level []api.Segment) []uint64 {
	var l []uint64
	for _, s := range level {
		l = append(l, s.First)
	}
	return l
}

// copied are levels like l, that share nothing with them.
func copied(l [][]api.Segment) [][]api.Segment {
	var other [][]api.Segment
	for _, level := range l {
		other = append(other, slices.Clone(level))
	}
	return other
}

func sameLevels(a, b [][]api.Segment) bool {
	return slices.EqualFunc(a, b, func(x, y []api.Segment) bool { return slices.Equal(x, y) })
}

// built are the levels over keys that levels.Build makes.
func built(t *testing.T, keys []uint64, eps int) [][]api.Segment {
	t.Helper()
	l, err := levels.Build(keys, eps)
	if err != api.OK {
		t.Fatalf("Build of %d keys, eps %d: %v", len(keys), eps, err)
	}
	return l
}

// laid are levels over keys that levels.Build need not make: each level's slots are cut by size.
func laid(t *testing.T, keys []uint64, eps int, size func() int) [][]api.Segment {
	t.Helper()
	var l [][]api.Segment
	for len(keys) > 0 && (len(l) == 0 || len(keys) > 1) {
		var level []api.Segment
		for from := 0; from < len(keys); {
			n := min(size(), len(keys)-from)
			s, err := model.Of(keys[from:from+n], eps, from)
			if err != api.OK {
				t.Fatalf("no segment over %v: %v", keys[from:from+n], err)
			}
			level = append(level, s)
			from += n
		}
		l = append(l, level)
		keys = heads(level)
	}
	return l
}

// loosened are levels like l, each of whose segments predicts otherwise, as long as it is off by at most eps.
func loosened(keys []uint64, eps int, l [][]api.Segment, next func() uint64) [][]api.Segment {
	l = copied(l)
	for _, level := range l {
		for i, s := range level {
			for range 6 {
				other := s
				other.Intercept += []float64{-64, -2, -1.5, -1, -0.5, 0.5, 1, 1.5, 2, 2.999, 64}[next()%11]
				other.Slope *= []float64{0, 0.5, 0.9, 1, 1, 1, 1.1, 1.5, 2}[next()%9]
				if off, err := model.Off(other, keys[s.From:s.To]); err == api.OK && off <= eps {
					level[i] = other
				}
			}
		}
		keys = heads(level)
	}
	return l
}

// raised are levels like l, with more of them over the root, as many as there may be.
func raised(eps int, l [][]api.Segment) [][]api.Segment {
	l = copied(l)
	root := l[len(l)-1][0]
	for len(l) < levels.MaxHeight(api.MaxRun, eps) {
		l = append(l, []api.Segment{{First: root.First, Intercept: float64(len(l) % 3), From: 0, To: 1}})
	}
	return l
}

// right hands over keys with levels that are right, those that levels.Build made and others.
func right(t *testing.T, do func(keys []uint64, eps int, l [][]api.Segment)) {
	t.Helper()
	next := scatter()
	for _, eps := range allEps {
		for _, keys := range bases(eps) {
			l := built(t, keys, eps)
			do(keys, eps, l)
			if len(keys) == 0 {
				continue
			}
			do(keys, eps, loosened(keys, eps, l, next))
			do(keys, eps, raised(eps, l))
			short := laid(t, keys, eps, func() int { return 2 + int(next()%uint64(2*eps-2)) })
			do(keys, eps, short)
			do(keys, eps, loosened(keys, eps, short, next))
		}
	}
}

// pile is one of keys and levels that are right.
func pile(t *testing.T, keys []uint64, eps int, l [][]api.Segment) *Pile {
	t.Helper()
	p, err := Of(keys, eps, l)
	if err != api.OK || p == nil {
		t.Fatalf("Of %d keys, eps %d, %d levels: %v, %v", len(keys), eps, len(l), p, err)
	}
	return p
}

// asked are keys to ask for: about each of some keys, about the first and the last one of each of some segments' stretches, and at both ends of all that may be.
func asked(keys []uint64, l [][]api.Segment, next func() uint64) []uint64 {
	qs := []uint64{0, 1, top - 1, top, next(), next()}
	about := func(i int) {
		k := keys[i]
		room := top - k
		if i+1 < len(keys) {
			room = keys[i+1] - k - 1
		}
		qs = append(qs, k, k-min(k, 1), k+min(room, 1), k+room/2, k+room)
	}
	for i := 0; i < len(keys); i += 1 + int(next()%uint64(1+len(keys)/40)) {
		about(i)
	}
	if len(keys) > 0 {
		about(0)
		about(len(keys) - 1)
	}
	if len(l) > 0 {
		for i := 0; i < len(l[0]); i += 1 + len(l[0])/20 {
			about(l[0][i].From)
			about(l[0][i].To - 1)
		}
	}
	return qs
}

// table is slots of another make than a pile: a value, which can't be asked for what it has not.
type table struct {
	eps int
	of  [][]uint64
	l   [][]api.Segment
}

// tabled is the table of keys and their levels.
func tabled(keys []uint64, eps int, l [][]api.Segment) table {
	t := table{eps: eps, of: [][]uint64{keys}, l: l}
	for _, level := range l {
		t.of = append(t.of, heads(level))
	}
	return t
}

func (t table) Eps() int                            { return t.eps }
func (t table) Height() int                         { return len(t.of) - 1 }
func (t table) Size(level int) int                  { return len(t.of[level]) }
func (t table) Key(level, slot int) uint64          { return t.of[level][slot] }
func (t table) Segment(level, slot int) api.Segment { return t.l[level-1][slot] }

// place is a slot of a level.
type place struct{ level, slot int }

// counted are slots that count what is asked of them.
type counted[S Slots] struct {
	Slots          S
	keys, segments map[place]int
}

func counting[S Slots](s S) *counted[S] {
	return &counted[S]{Slots: s, keys: map[place]int{}, segments: map[place]int{}}
}

func (c *counted[S]) Eps() int           { return c.Slots.Eps() }
func (c *counted[S]) Height() int        { return c.Slots.Height() }
func (c *counted[S]) Size(level int) int { return c.Slots.Size(level) }

func (c *counted[S]) Key(level, slot int) uint64 {
	c.keys[place{level, slot}]++
	return c.Slots.Key(level, slot)
}

func (c *counted[S]) Segment(level, slot int) api.Segment {
	c.segments[place{level, slot}]++
	return c.Slots.Segment(level, slot)
}

// plainPath is the descent by the chapter's own words, and whether q stands on level 0.
func plainPath(t table, q uint64) (l []api.Visit, there bool) {
	slot := 0
	for level := len(t.l) - 1; level >= 0; level-- {
		g := t.l[level][slot]
		v := api.Visit{Level: level, Slot: slot, Guess: model.Guess(g, q)}
		v.Lo = v.Guess - t.eps - 1
		if v.Lo < g.From {
			v.Lo = g.From
		}
		v.Hi = v.Guess + t.eps + 1
		if v.Hi > g.To {
			v.Hi = g.To
		}
		v.Rank = v.Lo
		for v.Rank != v.Hi && t.of[level][v.Rank] < q {
			v.Rank++
		}
		there = v.Rank < g.To && t.of[level][v.Rank] == q
		switch {
		case there:
			slot = v.Rank
		case v.Rank == g.From:
			slot = g.From
		default:
			slot = v.Rank - 1
		}
		l = append(l, v)
	}
	return l, there
}

// P9.1: what a pile of any right levels answers of itself.
func TestOfKeepsAll(t *testing.T) {
	heights := map[int]int{}
	right(t, func(keys []uint64, eps int, l [][]api.Segment) {
		p := pile(t, keys, eps, l)
		heights[len(l)]++
		if p.Eps() != eps || p.Height() != len(l) || p.Size(0) != len(keys) {
			t.Fatalf("eps %d, height %d, %d keys: want %d, %d, %d", p.Eps(), p.Height(), p.Size(0), eps, len(l), len(keys))
		}
		for slot, k := range keys {
			if got := p.Key(0, slot); got != k {
				t.Fatalf("the key of slot %d: %d, want %d", slot, got, k)
			}
		}
		for i, level := range l {
			if p.Size(i+1) != len(level) {
				t.Fatalf("level %d: %d slots, want %d", i+1, p.Size(i+1), len(level))
			}
			for slot, s := range level {
				if p.Key(i+1, slot) != s.First || p.Segment(i+1, slot) != s {
					t.Fatalf("level %d, slot %d: %d, %v, want %v", i+1, slot, p.Key(i+1, slot), p.Segment(i+1, slot), s)
				}
			}
		}
	})
	for _, h := range []int{0, 1, 2, 3, 5, 32} {
		if heights[h] == 0 {
			t.Errorf("heights: %v", heights)
		}
	}
}

// P9.1: levels and slots that there are not.
func TestPileHasNoOthers(t *testing.T) {
	none := func(p *Pile, level, slot int) {
		t.Helper()
		if k, s := p.Key(level, slot), p.Segment(level, slot); k != 0 || s != (api.Segment{}) {
			t.Errorf("level %d, slot %d, which there is not: %d, %v", level, slot, k, s)
		}
	}
	for _, keys := range [][]uint64{nil, {7}, {7, 9}, five, {5, 6, 7, 8, 100, 101, 102}, nested(4, 3, 7)[1:]} {
		l := built(t, keys, 2)
		p := pile(t, keys, 2, l)
		for _, level := range append(slices.Clone(beyond), len(l)+1, len(l)+2) {
			if n := p.Size(level); n != 0 {
				t.Errorf("%d levels, the size of level %d: %d", len(l), level, n)
			}
			for _, slot := range append(slices.Clone(beyond), 0, 1, len(keys)) {
				none(p, level, slot)
			}
		}
		for level := range len(l) + 1 {
			for _, slot := range append(slices.Clone(beyond), p.Size(level), p.Size(level)+1) {
				none(p, level, slot)
			}
		}
		for slot := range keys {
			if s := p.Segment(0, slot); s != (api.Segment{}) {
				t.Errorf("the segment of level 0, slot %d: %v", slot, s)
			}
		}
	}
}

// P9.1: the chapter's pile, and one of nothing.
func TestOfExamples(t *testing.T) {
	p := pile(t, five, 2, [][]api.Segment{{root5}})
	for level, want := range map[int]int{-1: 0, 0: 5, 1: 1, 2: 0} {
		if n := p.Size(level); n != want {
			t.Errorf("Size(%d): %d, want %d", level, n, want)
		}
	}
	if p.Eps() != 2 || p.Height() != 1 || p.Key(0, 4) != 50 || p.Key(1, 0) != 10 || p.Key(0, 5) != 0 || p.Segment(1, 0) != root5 || p.Segment(0, 0) != (api.Segment{}) {
		t.Errorf("the chapter's pile: %v", *p)
	}
	for _, eps := range allEps {
		for _, keys := range [][]uint64{nil, {}} {
			for _, l := range [][][]api.Segment{nil, {}} {
				p := pile(t, keys, eps, l)
				if p.Eps() != eps || p.Height() != 0 || p.Size(0) != 0 || p.Size(1) != 0 || p.Key(0, 0) != 0 || p.Segment(1, 0) != (api.Segment{}) {
					t.Errorf("a pile of nothing: %v", *p)
				}
			}
		}
	}
}

// refused fails, unless Of refuses with that error, which is also that of levels.Check.
func refused(t *testing.T, name string, keys []uint64, eps int, l [][]api.Segment, want api.Errno) {
	t.Helper()
	p, err := Of(keys, eps, l)
	if p != nil || err != want || levels.Check(keys, eps, l) != want {
		t.Errorf("%s: %v, %v, want %v", name, p, err, want)
	}
}

// P9.1: each error of levels.Check, of keys, of eps, and of any level. (ErrModelStretch is none of them: such a stretch does not tile the level.)
func TestOfRefuses(t *testing.T) {
	for _, eps := range wrongEps {
		refused(t, "an eps that may not be", nil, eps, nil, api.ErrArg)
		refused(t, "an eps that may not be, of keys", five, eps, [][]api.Segment{{root5}}, api.ErrArg)
		refused(t, "an eps that may not be, of keys that fall", []uint64{4, 3}, eps, nil, api.ErrArg)
	}
	for _, keys := range [][]uint64{{3, 3}, {4, 3}, {top, 0}, {10, 20, 30, 40, 40}} {
		refused(t, "keys that do not rise", keys, 2, [][]api.Segment{{root5}}, api.ErrLevelsOrder)
	}
	refused(t, "no levels", []uint64{7}, 2, nil, api.ErrLevelsHigh)
	refused(t, "a level over nothing", nil, 2, [][]api.Segment{nil}, api.ErrLevelsHigh)
	refused(t, "too many levels", five, 64, append(raised(64, built(t, five, 64)), []api.Segment{{First: 10, To: 1}}), api.ErrLevelsHigh)
	keys := nested(4, 3, 7)
	whole := built(t, keys, 2)
	for at := range 2 {
		refused(t, "no root", keys, 2, whole[:at+1], api.ErrLevelsRoot)
		for _, x := range []struct {
			name   string
			change func(l []api.Segment)
			want   api.Errno
		}{
			{"a gap", func(l []api.Segment) { l[1].From++ }, api.ErrLevelsTile},
			{"an end too early", func(l []api.Segment) { l[len(l)-1].To-- }, api.ErrLevelsTile},
			{"a stretch that may not be", func(l []api.Segment) { l[0].From = -1 }, api.ErrLevelsTile},
			{"a stretch too far", func(l []api.Segment) { l[len(l)-1].To = api.MaxRun + 1 }, api.ErrLevelsTile},
			{"a slope that may not be", func(l []api.Segment) { l[2].Slope = 2.5 }, api.ErrModelSlope},
			{"a slope of -0", func(l []api.Segment) { l[2].Slope = math.Copysign(0, -1) }, api.ErrModelSlope},
			{"a slope that is none", func(l []api.Segment) { l[0].Slope = math.NaN() }, api.ErrModelSlope},
			{"an intercept without end", func(l []api.Segment) { l[3].Intercept = math.Inf(1) }, api.ErrModelIntercept},
			{"another First", func(l []api.Segment) { l[1].First++ }, api.ErrLevelsFirst},
			{"too high", func(l []api.Segment) { l[1].Intercept += 3 }, api.ErrLevelsBound},
			{"too low", func(l []api.Segment) { l[3].Slope, l[3].Intercept = 0, 0 }, api.ErrLevelsBound},
		} {
			l := copied(whole)
			x.change(l[at])
			refused(t, x.name, keys, 2, l, x.want)
		}
	}
}

// P9.1: any levels are taken just if levels.Check takes them.
func TestOfIsCheck(t *testing.T) {
	next := scatter()
	took := map[bool]int{}
	right(t, func(keys []uint64, eps int, l [][]api.Segment) {
		if len(l) == 0 {
			return
		}
		l = copied(l)
		level := l[next()%uint64(len(l))]
		s := &level[next()%uint64(len(level))]
		switch next() % 6 {
		case 0:
			s.First += next()
		case 1:
			s.Slope = math.Float64frombits(next())
		case 2:
			s.Intercept += float64(next()%uint64(2*eps)) - float64(eps)
		case 3:
			s.From += int(next() % 2)
		case 4:
			s.To -= int(next() % 2)
		}
		p, err := Of(keys, eps, l)
		if want := levels.Check(keys, eps, l); err != want || (p != nil) != (err == api.OK) {
			t.Fatalf("%d keys, eps %d: %v, %v, want %v", len(keys), eps, p, err, want)
		}
		took[p != nil]++
	})
	if min(took[true], took[false]) < 50 {
		t.Errorf("taken: %v", took)
	}
}

// P9.2, P9.3: over a pile, over slots of another type, and over either of them behind the interface: what the chapter's words say.
func TestDescentIsPlain(t *testing.T) {
	next := scatter()
	right(t, func(keys []uint64, eps int, l [][]api.Segment) {
		p, other := pile(t, keys, eps, l), tabled(keys, eps, l)
		for _, q := range asked(keys, l, next) {
			want, there := plainPath(other, q)
			rank := 0
			if len(want) > 0 {
				rank = want[len(want)-1].Rank
			}
			found := func(name string, n int, is bool, visits []api.Visit) {
				t.Helper()
				if n != rank || is != there {
					t.Fatalf("%s: Find of %d, eps %d, %d keys: %d, %v, want %d, %v", name, q, eps, len(keys), n, is, rank, there)
				}
				if !slices.Equal(visits, want) {
					t.Fatalf("%s: Path of %d, eps %d, %d keys: %v, want %v", name, q, eps, len(keys), visits, want)
				}
			}
			n, is := Find(p, q)
			found("a pile", n, is, Path(p, q))
			n, is = Find(other, q)
			found("a table", n, is, Path(other, q))
			n, is = Find[Slots](p, q)
			found("any slots", n, is, Path[Slots](other, q))
		}
	})
}

// P9.2, P9.3: the chapter's examples, and others that can be told by hand.
func TestDescentExamples(t *testing.T) {
	ten := make([]uint64, 10)
	for i := range ten {
		ten[i] = uint64(10 * i)
	}
	flat := func(n, at int) [][]api.Segment { return [][]api.Segment{{{Intercept: float64(at), To: n}}} }
	two := []uint64{0, 1, 2, 3, 100, 101, 102}
	twoLevels := [][]api.Segment{
		{{First: 0, Slope: 1.0 / 3, Intercept: 1, From: 0, To: 4}, {First: 100, Slope: 0, Intercept: 5, From: 4, To: 7}},
		{{First: 0, From: 0, To: 2}}}
	for _, x := range []struct {
		keys  []uint64
		eps   int
		l     [][]api.Segment
		q     uint64
		there bool
		want  []api.Visit
	}{
		{nil, 2, nil, 7, false, nil},
		{nil, 64, [][]api.Segment{}, 0, false, nil},
		{five, 2, [][]api.Segment{{root5}}, 35, false, []api.Visit{{Level: 0, Slot: 0, Guess: 2, Lo: 0, Hi: 5, Rank: 3}}},
		{five, 2, [][]api.Segment{{root5}}, 50, true, []api.Visit{{Guess: 3, Lo: 0, Hi: 5, Rank: 4}}},
		{five, 2, [][]api.Segment{{root5}}, 30, true, []api.Visit{{Guess: 2, Lo: 0, Hi: 5, Rank: 2}}},
		{five, 2, [][]api.Segment{{root5}}, 5, false, []api.Visit{{Guess: 1, Lo: 0, Hi: 4, Rank: 0}}},
		{five, 2, [][]api.Segment{{root5}}, 10, true, []api.Visit{{Guess: 1, Lo: 0, Hi: 4, Rank: 0}}},
		{five, 2, [][]api.Segment{{root5}}, 51, false, []api.Visit{{Guess: 3, Lo: 0, Hi: 5, Rank: 5}}},
		{five, 2, [][]api.Segment{{root5}}, top, false, []api.Visit{{Guess: 5, Lo: 2, Hi: 5, Rank: 5}}},
		{[]uint64{7}, 2, [][]api.Segment{{{First: 7, Intercept: -1, To: 1}}}, 7, true, []api.Visit{{Hi: 1}}},
		{[]uint64{7}, 2, [][]api.Segment{{{First: 7, Intercept: -1, To: 1}}}, 8, false, []api.Visit{{Hi: 1, Rank: 1}}},
		{[]uint64{7}, 2, [][]api.Segment{{{First: 7, Intercept: 9, To: 1}}}, 0, false, []api.Visit{{Guess: 1, Hi: 1}}},
		{[]uint64{0, top}, 64, flat(2, 0), 0, true, []api.Visit{{Hi: 2}}},
		{[]uint64{0, top}, 64, flat(2, 0), 1, false, []api.Visit{{Hi: 2, Rank: 1}}},
		{[]uint64{0, top}, 64, flat(2, 2), top, true, []api.Visit{{Guess: 2, Hi: 2, Rank: 1}}},
		{ten[:5], 2, flat(5, 2), 35, false, []api.Visit{{Guess: 2, Hi: 5, Rank: 4}}},
		{ten, 2, [][]api.Segment{{{Slope: 0.09, To: 10}}}, 1, false, []api.Visit{{Guess: 0, Hi: 3, Rank: 1}}},
		{ten, 2, [][]api.Segment{{{Slope: 0.1, Intercept: -2, To: 10}}}, 79, false, []api.Visit{{Guess: 5, Lo: 2, Hi: 8, Rank: 8}}}, // a Rank that is Hi, and not To
		{ten, 2, [][]api.Segment{{{Slope: 0.1, Intercept: -2, To: 10}}}, 80, true, []api.Visit{{Guess: 6, Lo: 3, Hi: 9, Rank: 8}}},
		{ten, 2, [][]api.Segment{{{Slope: 0.1, Intercept: 2, To: 10}}}, 50, true, []api.Visit{{Guess: 7, Lo: 4, Hi: 10, Rank: 5}}},
		{two, 2, twoLevels, 3, true, []api.Visit{{Level: 1, Slot: 0, Guess: 0, Lo: 0, Hi: 2, Rank: 1}, {Guess: 2, Lo: 0, Hi: 4, Rank: 3}}},
		{two, 2, twoLevels, 0, true, []api.Visit{{Level: 1, Hi: 2, Rank: 0}, {Guess: 1, Lo: 0, Hi: 4, Rank: 0}}},
		{two, 2, twoLevels, 99, false, []api.Visit{{Level: 1, Hi: 2, Rank: 1}, {Guess: 4, Lo: 1, Hi: 4, Rank: 4}}},
		{two, 2, twoLevels, 100, true, []api.Visit{{Level: 1, Hi: 2, Rank: 1}, {Slot: 1, Guess: 5, Lo: 4, Hi: 7, Rank: 4}}},
		{two, 2, twoLevels, 101, true, []api.Visit{{Level: 1, Hi: 2, Rank: 2}, {Slot: 1, Guess: 5, Lo: 4, Hi: 7, Rank: 5}}},
		{two, 2, twoLevels, 103, false, []api.Visit{{Level: 1, Hi: 2, Rank: 2}, {Slot: 1, Guess: 5, Lo: 4, Hi: 7, Rank: 7}}},
	} {
		rank := 0
		if len(x.want) > 0 {
			rank = x.want[len(x.want)-1].Rank
		}
		p := pile(t, x.keys, x.eps, x.l)
		if n, is := Find(p, x.q); n != rank || is != x.there {
			t.Errorf("Find of %d in %v: %d, %v, want %d, %v", x.q, x.keys, n, is, rank, x.there)
		}
		if v := Path(p, x.q); !slices.Equal(v, x.want) {
			t.Errorf("Path of %d in %v: %v, want %v", x.q, x.keys, v, x.want)
		}
	}
}

// held fails, unless a descent with these visits asked for no more than it may.
func held[S Slots](t *testing.T, c *counted[S], visits []api.Visit) {
	t.Helper()
	windows := map[int]api.Visit{}
	ends := map[int]int{}
	for _, v := range visits {
		windows[v.Level] = v
		ends[v.Level] = c.Slots.Segment(v.Level+1, v.Slot).To
		if n := c.segments[place{v.Level + 1, v.Slot}]; n != 1 {
			t.Fatalf("%v: its segment was asked for %d times", v, n)
		}
	}
	if len(c.segments) != len(visits) || len(visits) != c.Height() {
		t.Fatalf("height %d: %d visits, segments %v", c.Height(), len(visits), c.segments)
	}
	asked := map[int]int{}
	for at, n := range c.keys {
		v, ok := windows[at.level]
		if !ok || n != 1 || at.slot < v.Lo || at.slot > v.Hi || at.slot >= ends[at.level] {
			t.Fatalf("the key of level %d, slot %d was asked for %d times: %v, To %d", at.level, at.slot, n, v, ends[at.level])
		}
		if asked[at.level]++; asked[at.level] > 2*c.Eps()+3 {
			t.Fatalf("level %d: more than %d keys", at.level, 2*c.Eps()+3)
		}
	}
}

// P9.4: what Find and Path ask, of a pile and of a table.
func TestWhatIsRead(t *testing.T) {
	next := scatter()
	right(t, func(keys []uint64, eps int, l [][]api.Segment) {
		p, other := pile(t, keys, eps, l), tabled(keys, eps, l)
		for _, q := range asked(keys, l, next) {
			want, _ := plainPath(other, q)
			found, gone := counting(p), counting(other)
			Find(found, q)
			held(t, found, want)
			Path(gone, q)
			held(t, gone, want)
		}
	})
}

// P9.4: nothing is asked where there is nothing.
func TestNothingIsRead(t *testing.T) {
	for _, eps := range allEps {
		c := counting(tabled(nil, eps, nil))
		for _, q := range []uint64{0, 1, 7, top} {
			if n, is := Find(c, q); n != 0 || is {
				t.Errorf("Find of %d in nothing: %d, %v", q, n, is)
			}
			if v := Path(c, q); len(v) != 0 {
				t.Errorf("Path of %d in nothing: %v", q, v)
			}
		}
		if len(c.keys) != 0 || len(c.segments) != 0 {
			t.Errorf("asked of nothing: %v, %v", c.keys, c.segments)
		}
	}
}

// edges are how often the descents of a test came upon the edges that the chapter names.
type edges struct{ cutLo, cutHi, whole, atFrom, atHi, atTo, under, over, first, last int }

// see counts what one visit is of; g is its segment.
func (e *edges) see(v api.Visit, g api.Segment, eps int, there bool) {
	for count, is := range map[*int]bool{
		&e.cutLo:  v.Guess-eps-1 < g.From,
		&e.cutHi:  v.Guess+eps+1 > g.To,
		&e.whole:  v.Guess-eps-1 >= g.From && v.Guess+eps+1 <= g.To,
		&e.atFrom: v.Rank == g.From,
		&e.atHi:   v.Rank == v.Hi && v.Hi < g.To,
		&e.atTo:   v.Rank == g.To,
		&e.under:  v.Rank-v.Guess == eps+1,
		&e.over:   there && v.Guess-v.Rank == eps,
		&e.first:  there && v.Rank == g.From && v.Slot > 0,
		&e.last:   there && v.Rank == g.To-1 && v.Slot > 0,
	} {
		if is {
			*count++
		}
	}
}

// fewest is how often the edge was met that was met the least.
func (e *edges) fewest() int {
	return min(e.cutLo, e.cutHi, e.whole, e.atFrom, e.atHi, e.atTo, e.under, e.over, e.first, e.last)
}

// P9.5, P9.6: on each level, on level 0 and on those above it, with all edges.
func TestRankAndBound(t *testing.T) {
	next := scatter()
	met := [2]edges{}
	right(t, func(ks []uint64, eps int, l [][]api.Segment) {
		p, other := pile(t, ks, eps, l), tabled(ks, eps, l)
		for _, q := range asked(ks, l, next) {
			n, is := Find(p, q)
			if rank, there := keys.Rank(ks, q); n != rank || is != there {
				t.Fatalf("Find of %d, eps %d, %d keys: %d, %v, want %d, %v", q, eps, len(ks), n, is, rank, there)
			}
			for _, v := range Path(p, q) {
				rank, there := slices.BinarySearch(other.of[v.Level], q)
				if v.Rank != rank {
					t.Fatalf("%d, eps %d: %v, of the rank %d", q, eps, v, rank)
				}
				off := max(v.Guess-v.Rank, v.Rank-v.Guess)
				if off > eps+1 || there && off > eps {
					t.Fatalf("%d, eps %d, stands there %v: %v is off by %d", q, eps, there, v, off)
				}
				met[min(v.Level, 1)].see(v, p.Segment(v.Level+1, v.Slot), eps, there)
			}
		}
	})
	for i := range met {
		if met[i].fewest() < 20 {
			t.Errorf("level %d: met %+v", i, met[i])
		}
	}
}

// P9.5: of the right levels with the greatest eps and the least one, each q of few keys.
func TestEveryQuestion(t *testing.T) {
	next := scatter()
	for _, eps := range []int{2, 64} {
		for range 200 {
			var ks []uint64
			for k := range uint64(200) {
				if next()%3 == 0 {
					ks = append(ks, k)
				}
			}
			l := laid(t, ks, eps, func() int { return 2 + int(next()%3) })
			p := pile(t, ks, eps, loosened(ks, eps, l, next))
			for q := range uint64(210) {
				n, is := Find(p, q)
				if rank, there := keys.Rank(ks, q); n != rank || is != there {
					t.Fatalf("Find of %d in %v, eps %d: %d, %v, want %d, %v", q, ks, eps, n, is, rank, there)
				}
			}
		}
	}
}

// grid is MaxRun keys, 2^32 apart, and two levels over them: all of it worked out when it is asked for.
type grid struct{ eps int }

func (g grid) Eps() int           { return g.eps }
func (g grid) Height() int        { return 2 }
func (g grid) Size(level int) int { return 1 << (32 - 16*level) }

func (g grid) Key(level, slot int) uint64 { return uint64(slot) << (32 + 16*level) }

func (g grid) Segment(level, slot int) api.Segment {
	from := slot << 16
	return api.Segment{First: g.Key(level, slot), Slope: math.Ldexp(1, -16-16*level), Intercept: float64(from), From: from, To: from + 1<<16}
}

// P9.2 to P9.6: as many keys as there may be, which no memory holds.
func TestGreatestRun(t *testing.T) {
	next := scatter()
	qs := []uint64{0, 1, 1<<32 - 1, 1 << 32, 1<<32 + 1, 1<<48 - 1, 1 << 48, 1<<48 + 1, top - 1<<48, top - 1<<32, top - 1<<32 + 1, top - 1<<32 + 2, top - 1, top}
	for range 2000 {
		q := next()
		qs = append(qs, q, q>>32<<32, q>>48<<48, q>>48<<48-1)
	}
	for _, eps := range allEps {
		for _, q := range qs {
			rank, there := int(q>>32), q<<32 == 0
			if !there {
				rank++
			}
			c := counting(grid{eps})
			if n, is := Find(c, q); n != rank || is != there {
				t.Fatalf("Find of %d, eps %d: %d, %v, want %d, %v", q, eps, n, is, rank, there)
			}
			visits := Path(grid{eps}, q)
			held(t, c, visits)
			low := visits[1]
			if off := max(low.Guess-low.Rank, low.Rank-low.Guess); low.Rank != rank || low.Level != 0 || low.Slot != int(q>>48) || off > eps+1 || there && off > eps {
				t.Fatalf("Path of %d, eps %d: %v", q, eps, visits)
			}
		}
	}
}

// R4: nothing that is written into what was handed in, or came out, changes a pile or another answer; what is behind a list's length is not read.
func TestPileKeepsNothing(t *testing.T) {
	room := append(nested(4, 3, 7), 3, 3)
	was := slices.Clone(room)
	ks := room[:64]
	l := built(t, ks, 2)
	wide := copied(l)
	for i := range wide {
		wide[i] = append(wide[i], api.Segment{First: 1, Slope: -1, From: 9, To: 3})[:len(wide[i])]
	}
	wide = append(wide, []api.Segment{{To: -1}})[:len(wide)]
	p := pile(t, ks, 2, wide)
	if !slices.Equal(room, was) || !sameLevels(wide, l) || !sameLevels(wide[3:4], [][]api.Segment{{{To: -1}}}) || wide[0][:17][16].From != 9 {
		t.Fatal("an argument changed")
	}
	clear(room)
	for _, level := range wide {
		clear(level)
	}
	clear(wide)
	other := tabled(was[:64], 2, l)
	for _, q := range asked(was[:64], l, scatter()) {
		want, _ := plainPath(other, q)
		first := Path(p, q)
		second := Path(p, q)
		clear(first[:cap(first)])
		if !slices.Equal(second, want) || !slices.Equal(Path(p, q), want) {
			t.Fatalf("Path of %d: %v, want %v", q, second, want)
		}
	}
	for i, level := range l {
		for slot, s := range level {
			if p.Segment(i+1, slot) != s {
				t.Errorf("level %d, slot %d: %v", i+1, slot, p.Segment(i+1, slot))
			}
		}
	}
}
