package line

import (
	"math"
	"math/big"
	"slices"
	"testing"

	"incline/api"
)

const top = math.MaxUint64

var (
	allEps   = []int{2, 3, 4, 8, 17, 63, 64}
	wrongEps = []int{math.MinInt, math.MinInt + 2, -1 << 32, 2 - 1<<32, -64, -2, -1, 0, 1, 65, 66, 128, 258, 1<<32 + 2, math.MaxInt}
)

// scatter gives words without a pattern, of all lengths, always the same ones.
func scatter() func() uint64 {
	x := uint64(0x9e3779b97f4a7c15)
	next := func() uint64 {
		x ^= x << 13
		x ^= x >> 7
		x ^= x << 17
		return x
	}
	return func() uint64 { return next() >> (next() % 64) }
}

// streams are rising keys of many kinds, n at most (fewer where the next one would be beyond).
func streams(n int) [][]uint64 {
	next := scatter()
	gaps := []func(i int) uint64{
		func(i int) uint64 { return 1 },
		func(i int) uint64 { return 10 },
		func(i int) uint64 { return top / uint64(n) },
		func(i int) uint64 { return 1 + next()%3 },
		func(i int) uint64 { return 1 + next()%1000 },
		func(i int) uint64 { return 1 + next()%(top/uint64(n)) },
		func(i int) uint64 { return uint64(i + 1) },
		func(i int) uint64 { return uint64(2*n - i) },
		func(i int) uint64 { return uint64(1 + i%7*i%11) },
		func(i int) uint64 { return 1 << 40 / uint64(i+3) },
		func(i int) uint64 { return 1 << min(i/3, 62) },
		func(i int) uint64 { return 1<<30*uint64(i%13/12) + 1 },
		func(i int) uint64 { return 1<<57>>min(i, 57) + 1 },
		func(i int) uint64 { return 1 + 1000*uint64(1-i/15%2) },
	}
	var all [][]uint64
	for g, gap := range gaps {
		k := []uint64{0, 7, 1 << 33}[g%3]
		l := []uint64{k}
		for i := 1; i < n; i++ {
			d := gap(i)
			if d > top-k {
				l = append(l, top)
				break
			}
			k += d
			l = append(l, k)
		}
		all = append(all, l)
	}
	return all
}

// line is the line of keys that have one.
func line(t *testing.T, keys []uint64, eps int) api.Line {
	t.Helper()
	l, err := Of(keys, eps)
	if err != api.OK {
		t.Fatalf("Of(%v, %d): %v", keys, eps, err)
	}
	return l
}

// stretches hands over pieces of keys, from the first one on, each as long as Of has a line of it, and a few shorter beginnings of each.
func stretches(keys []uint64, eps int, do func(keys []uint64)) {
	for len(keys) > 0 {
		n := 1
		for n < len(keys) {
			if _, err := Of(keys[:n+1], eps); err != api.OK {
				break
			}
			n++
		}
		for _, part := range []int{1, 2, n / 2, n - 1, n} {
			if part > 0 && part <= n {
				do(keys[:part])
			}
		}
		keys = keys[n:]
	}
}

func whole(n uint64) *big.Int { return new(big.Int).SetUint64(n) }

func rat(num, den *big.Int) *big.Rat { return new(big.Rat).SetFrac(num, den) }

// slope is that of the way from the key i to the key j, if it rises by up.
func slope(up int, from, to uint64) *big.Rat {
	return rat(big.NewInt(int64(up)), whole(to-from))
}

// plainSlopes go by the words behind chapter 4's promises: from all pairs of keys. The greatest is nil, if there is none.
func plainSlopes(keys []uint64, e int) (least, most *big.Rat) {
	least = new(big.Rat)
	for j := range keys {
		for i := range j {
			if s := slope(j-i-2*e, keys[i], keys[j]); s.Cmp(least) > 0 {
				least = s
			}
			if s := slope(j-i+2*e, keys[i], keys[j]); most == nil || s.Cmp(most) < 0 {
				most = s
			}
		}
	}
	return least, most
}

// floor is r rounded down.
func floor(r *big.Rat) *big.Int {
	return new(big.Int).Div(r.Num(), r.Denom()) // the denominator is above 0, where this rounds down
}

// gap is how far the rank of the key i is above the line of the slope s through the first key's.
func gap(keys []uint64, i int, s *big.Rat) *big.Rat {
	way := new(big.Rat).SetInt(whole(keys[i] - keys[0]))
	return way.Sub(new(big.Rat).SetInt64(int64(i)), way.Mul(way, s))
}

// plainOf is Of by the promise's own words; of keys that rise, and an eps that may be.
func plainOf(keys []uint64, eps int) (api.Line, api.Errno) {
	e := eps - 1
	least, most := plainSlopes(keys, e)
	if most != nil && least.Cmp(most) > 0 {
		return api.Line{}, api.ErrLineFit
	}
	var base *big.Int
	for i := range keys {
		low := gap(keys, i, least)
		low.Sub(low, new(big.Rat).SetInt64(int64(e)))
		up := new(big.Int).Neg(floor(low.Neg(low))) // rounded up
		if base == nil || up.Cmp(base) > 0 {
			base = up
		}
	}
	return api.Line{Num: least.Num().Uint64(), Den: least.Denom().Uint64(), Base: int(base.Int64())}, api.OK
}

// holdOf holds Of against the plain one.
func holdOf(t *testing.T, keys []uint64, eps int) api.Errno {
	t.Helper()
	l, err := Of(keys, eps)
	want, wantErr := plainOf(keys, eps)
	if l != want || err != wantErr {
		t.Fatalf("Of(%v, %d): %v, %v, want %v, %v", keys, eps, l, err, want, wantErr)
	}
	return err
}

// P5.1
func TestOfExamples(t *testing.T) {
	for _, x := range []struct {
		keys []uint64
		eps  int
		want api.Line
	}{
		{[]uint64{10, 20, 30, 40, 50}, 2, api.Line{Num: 1, Den: 20, Base: 1}},
		{[]uint64{7, 8, 9}, 2, api.Line{Num: 0, Den: 1, Base: 1}},
		{[]uint64{0, 1, 2, 3}, 2, api.Line{Num: 1, Den: 3, Base: 1}},
		{[]uint64{0, 1, 2, 100}, 2, api.Line{Num: 1, Den: 100, Base: 1}},
		{[]uint64{0, 4, 8, 12, 16}, 2, api.Line{Num: 1, Den: 8, Base: 1}},
		{[]uint64{0, 1, 2, 3, 12, 15}, 2, api.Line{Num: 1, Den: 3, Base: 1}},
		// One key, and two.
		{[]uint64{7}, 2, api.Line{Num: 0, Den: 1, Base: -1}},
		{[]uint64{0}, 2, api.Line{Num: 0, Den: 1, Base: -1}},
		{[]uint64{top}, 2, api.Line{Num: 0, Den: 1, Base: -1}},
		{[]uint64{top}, 64, api.Line{Num: 0, Den: 1, Base: -63}},
		{[]uint64{0, 1}, 2, api.Line{Num: 0, Den: 1, Base: 0}},
		{[]uint64{0, top}, 2, api.Line{Num: 0, Den: 1, Base: 0}},
		{[]uint64{top - 1, top}, 64, api.Line{Num: 0, Den: 1, Base: -62}},
		// Both ends of the keys, more than a level line is near to.
		{[]uint64{0, 1, 2, top}, 2, api.Line{Num: 1, Den: top, Base: 1}},
		{[]uint64{0, 1, top - 1, top}, 2, api.Line{Num: 1, Den: top, Base: 1}},
		{[]uint64{0, 1, 2, 4}, 2, api.Line{Num: 1, Den: 4, Base: 1}},
	} {
		if l, err := Of(x.keys, x.eps); l != x.want || err != api.OK {
			t.Errorf("Of(%v, %d): %v, %v, want %v", x.keys, x.eps, l, err, x.want)
		}
	}
}

// P5.1
func TestOfIsThePlainOne(t *testing.T) {
	next, fit, unfit := scatter(), 0, 0
	for _, eps := range allEps {
		for _, keys := range streams(4*eps + 12) {
			from := int(next() % uint64(len(keys)))
			for _, part := range [][]uint64{keys, keys[:from+1], keys[from:], keys[:len(keys)/2]} {
				if holdOf(t, part, eps) == api.OK {
					fit++
				} else {
					unfit++
				}
			}
		}
	}
	if fit < 100 || unfit < 50 {
		t.Errorf("%d have a line, %d have none", fit, unfit)
	}
}

// P5.1: all rising keys of a few numbers.
func TestOfAllShort(t *testing.T) {
	numbers := []uint64{0, 1, 2, 3, 7, 9, 20, 40, 1000, 1 << 63, top - 1, top}
	for set := 1; set < 1<<len(numbers); set++ {
		var keys []uint64
		for i, k := range numbers {
			if set>>i&1 == 1 {
				keys = append(keys, k)
			}
		}
		holdOf(t, keys, 2)
		holdOf(t, keys, 3)
	}
}

// P5.1: a last key that only just leaves a line, and one that only just does not.
func TestOfJust(t *testing.T) {
	for _, x := range []struct {
		keys    []uint64
		in, out uint64
		want    api.Line
	}{
		{[]uint64{0, 1, 2, 3}, 12, 13, api.Line{Num: 1, Den: 3, Base: 1}},
		{[]uint64{0, 1, 2, 3, 12}, 15, 16, api.Line{Num: 1, Den: 3, Base: 1}},
		{[]uint64{top - 13, top - 12, top - 11, top - 10}, top - 1, top, api.Line{Num: 1, Den: 3, Base: 1}},
		{[]uint64{10, 20, 30, 40, 50, 51, 52}, 57, 56, api.Line{Num: 1, Den: 7, Base: 0}},
	} {
		in, out := append(slices.Clone(x.keys), x.in), append(slices.Clone(x.keys), x.out)
		if l, err := Of(in, 2); l != x.want || err != api.OK {
			t.Errorf("Of(%v, 2): %v, %v, want %v", in, l, err, x.want)
		}
		if l, err := Of(out, 2); l != (api.Line{}) || err != api.ErrLineFit {
			t.Errorf("Of(%v, 2): %v, %v", out, l, err)
		}
		holdOf(t, in, 2)
		holdOf(t, out, 2)
	}
}

// refused fails, if Of answers another error than this one, or something beside it.
func refused(t *testing.T, keys []uint64, eps int, want api.Errno) {
	t.Helper()
	if l, err := Of(keys, eps); l != (api.Line{}) || err != want {
		t.Errorf("Of(%v, %d): %v, %v, want %v", keys, eps, l, err, want)
	}
}

// P5.1: wrong inputs, and which of several is told.
func TestOfRefuses(t *testing.T) {
	right := [][]uint64{{7}, {0, top}, {10, 20, 30, 40, 50}}
	fallen := [][]uint64{nil, {}, {3, 3}, {0, 0}, {top, top}, {4, 3}, {top, 0}, {1, 2, 2}, {1, 2, 3, 4, 4}, {5, 4, 6, 7}, {1, 2, 0}}
	unfit := [][]uint64{{0, 1, 2, 3, top}, {0, 1, 2, 3, 100}, {0, 1, 2, 3, 13, 14, 15}, {0, top - 3, top - 2, top - 1, top}}
	// A line is missing ahead of the place where the keys fall.
	both := [][]uint64{{0, 1, 2, 3, 100, 100}, {0, 1, 2, 3, top, 5}, {0, 1, 2, 3, top, 0}}
	for _, eps := range wrongEps {
		for _, l := range slices.Concat(right, fallen, unfit, both) {
			refused(t, l, eps, api.ErrArg)
		}
	}
	for _, eps := range []int{2, 64} {
		for _, l := range fallen {
			refused(t, l, eps, api.ErrLineOrder)
		}
	}
	for _, l := range both {
		refused(t, l, 2, api.ErrLineOrder)
	}
	for _, l := range unfit {
		refused(t, l, 2, api.ErrLineFit)
		line(t, l, 64)
	}
}

// P5.1: every eps that may be has lines, of as many keys as always fit and, of two bunches, no more.
func TestOfEveryEps(t *testing.T) {
	for eps := 2; eps <= 64; eps++ {
		var bunch []uint64
		for i := range uint64(2*eps - 1) {
			bunch = append(bunch, i)
		}
		if l := line(t, bunch, eps); l != (api.Line{Num: 0, Den: 1, Base: eps - 1}) {
			t.Errorf("eps %d, %d keys: %v", eps, len(bunch), l)
		}
		bunch = append(bunch, uint64(2*eps-1))
		if l := line(t, bunch, eps); l != (api.Line{Num: 1, Den: uint64(2*eps - 1), Base: eps - 1}) {
			t.Errorf("eps %d, %d keys: %v", eps, len(bunch), l)
		}
		refused(t, append(bunch, top), eps, api.ErrLineFit)
	}
}

// plainAt is At by the promise's own words.
func plainAt(l api.Line, far uint64) (int, api.Errno) {
	bound := big.NewInt(1 << 61)
	base := big.NewInt(int64(l.Base))
	if l.Den == 0 || base.CmpAbs(bound) > 0 {
		return 0, api.ErrArg
	}
	up := new(big.Int).Mul(whole(l.Num), whole(far))
	if up.Div(up, whole(l.Den)); up.Cmp(bound) > 0 {
		return 0, api.ErrArg
	}
	return int(up.Add(up, base).Int64()), api.OK
}

func holdAt(t *testing.T, l api.Line, far uint64) api.Errno {
	t.Helper()
	n, err := At(l, far)
	if want, wantErr := plainAt(l, far); n != want || err != wantErr {
		t.Errorf("At(%v, %d): %d, %v, want %d, %v", l, far, n, err, want, wantErr)
	}
	return err
}

// P5.2
func TestAtExamples(t *testing.T) {
	l := api.Line{Num: 1, Den: 20, Base: 1}
	for _, x := range []struct {
		l    api.Line
		far  uint64
		want int
		err  api.Errno
	}{
		{l, 0, 1, api.OK}, {l, 19, 1, api.OK}, {l, 20, 2, api.OK}, {l, 39, 2, api.OK}, {l, 40, 3, api.OK}, {l, top, 922337203685477581, api.OK},
		{api.Line{Num: 2, Den: 40, Base: 1}, 19, 1, api.OK},
		{api.Line{Num: 2, Den: 40, Base: 1}, 40, 3, api.OK},
		{api.Line{Num: 0, Den: 7, Base: -3}, top, -3, api.OK},
		{api.Line{Num: 1, Den: 2, Base: -3}, 1, -3, api.OK},
		{api.Line{Num: 1, Den: 2, Base: -3}, 5, -1, api.OK},
		{api.Line{Num: 1, Den: 0, Base: 0}, 1, 0, api.ErrArg},
		{api.Line{Num: 1, Den: 0, Base: 0}, 0, 0, api.ErrArg},
		{api.Line{}, 0, 0, api.ErrArg},
		{api.Line{Num: top, Den: 0, Base: 0}, top, 0, api.ErrArg},
		// The Base at its bounds, and beyond them.
		{api.Line{Num: 1, Den: 1, Base: 1 << 61}, 1 << 61, 1 << 62, api.OK},
		{api.Line{Num: 1, Den: 1, Base: -1 << 61}, 1 << 61, 0, api.OK},
		{api.Line{Num: 0, Den: 1, Base: -1 << 61}, 0, -1 << 61, api.OK},
		{api.Line{Num: 0, Den: 1, Base: 1<<61 + 1}, 0, 0, api.ErrArg},
		{api.Line{Num: 0, Den: 1, Base: -1<<61 - 1}, 0, 0, api.ErrArg},
		{api.Line{Num: 1, Den: 1, Base: -1<<61 - 1}, 1 << 61, 0, api.ErrArg},
		{api.Line{Num: 0, Den: 1, Base: math.MaxInt}, 0, 0, api.ErrArg},
		{api.Line{Num: 0, Den: 1, Base: math.MinInt}, 0, 0, api.ErrArg},
		// How high it climbs, at its bound and above it; the Base does not bring it down.
		{api.Line{Num: 1, Den: 1, Base: 0}, 1 << 61, 1 << 61, api.OK},
		{api.Line{Num: 1, Den: 1, Base: 0}, 1<<61 + 1, 0, api.ErrArg},
		{api.Line{Num: 1, Den: 1, Base: -1 << 61}, 1<<61 + 1, 0, api.ErrArg},
		{api.Line{Num: 1, Den: 7, Base: 0}, 7<<61 + 6, 1 << 61, api.OK},
		{api.Line{Num: 1, Den: 7, Base: 0}, 7<<61 + 7, 0, api.ErrArg},
		{api.Line{Num: 7<<61 + 6, Den: 7, Base: 5}, 1, 1<<61 + 5, api.OK},
		{api.Line{Num: 7<<61 + 7, Den: 7, Base: 5}, 1, 0, api.ErrArg},
		{api.Line{Num: 1 << 61, Den: top, Base: 0}, top, 1 << 61, api.OK},
		{api.Line{Num: 1<<61 + 1, Den: top, Base: 0}, top, 0, api.ErrArg},
		// Great numbers of both kinds.
		{api.Line{Num: top, Den: top, Base: 0}, 9, 9, api.OK},
		{api.Line{Num: 9, Den: top, Base: 0}, top, 9, api.OK},
		{api.Line{Num: 1 << 63, Den: top, Base: 0}, 1 << 63, 0, api.ErrArg},
		{api.Line{Num: 1<<63 - 1, Den: top, Base: 0}, 1 << 63, 0, api.ErrArg},
		{api.Line{Num: top, Den: top, Base: 0}, top, 0, api.ErrArg},
		{api.Line{Num: top, Den: 1, Base: 0}, top, 0, api.ErrArg},
		{api.Line{Num: top, Den: 1, Base: 0}, 0, 0, api.OK},
		{api.Line{Num: 1 << 63, Den: 2, Base: 0}, 1, 0, api.ErrArg},
		{api.Line{Num: 1 << 32, Den: 1, Base: 0}, 1 << 32, 0, api.ErrArg}, // 2^64, of which a word keeps 0
	} {
		if n, err := At(x.l, x.far); n != x.want || err != x.err {
			t.Errorf("At(%v, %d): %d, %v, want %d, %v", x.l, x.far, n, err, x.want, x.err)
		}
		holdAt(t, x.l, x.far)
	}
}

// P5.2
func TestAtIsThePlainOne(t *testing.T) {
	words := []uint64{0, 1, 2, 3, 7, 20, 1<<32 - 1, 1 << 32, 1<<61 - 1, 1 << 61, 1<<61 + 1, 1 << 62, 1<<63 - 1, 1 << 63, 1<<63 + 1, top - 1, top}
	bases := []int{0, 1, -1, 1<<61 - 1, 1 << 61, 1<<61 + 1, -1<<61 + 1, -1 << 61, -1<<61 - 1, math.MinInt, math.MaxInt}
	for _, num := range words {
		for _, den := range words {
			for _, far := range words {
				for _, base := range bases {
					holdAt(t, api.Line{Num: num, Den: den, Base: base}, far)
				}
			}
		}
	}
	next, taken := scatter(), 0
	for range 50000 {
		l := api.Line{Num: next(), Den: next(), Base: int(next()) >> 2}
		if next()%2 == 0 {
			l.Base = -l.Base
		}
		if holdAt(t, l, next()) == api.OK {
			taken++
		}
	}
	if taken < 5000 || taken > 45000 {
		t.Errorf("%d of 50000 are taken", taken)
	}
}

// P5.2: the last distance of which At answers, of many lines, and the next one.
func TestAtJust(t *testing.T) {
	next, n := scatter(), 0
	for range 20000 {
		num, den := next(), next()
		if num == 0 || den == 0 {
			continue
		}
		// The greatest far with num * far below (2^61 + 1) * den.
		last := new(big.Int).Mul(big.NewInt(1<<61+1), whole(den))
		last.Sub(last, big.NewInt(1))
		if last.Div(last, whole(num)); !last.IsUint64() || last.Uint64() == top {
			continue
		}
		n++
		l := api.Line{Num: num, Den: den, Base: -1 << 61}
		if err := holdAt(t, l, last.Uint64()); err != api.OK {
			t.Errorf("At(%v, %v): %v", l, last, err)
		}
		if err := holdAt(t, l, last.Uint64()+1); err != api.ErrArg {
			t.Errorf("At(%v, %v and 1): %v", l, last, err)
		}
	}
	if n < 1000 {
		t.Errorf("only %d lines climb that high", n)
	}
}

// plainFits is Fits by the promise's own words; of keys that rise, and an eps that may be.
func plainFits(l api.Line, keys []uint64, eps int) bool {
	for i, k := range keys {
		n, err := plainAt(l, k-keys[0])
		if err != api.OK || n < i-(eps-1) || n > i+(eps-1) {
			return false
		}
	}
	return true
}

// P5.3
func TestFitsExamples(t *testing.T) {
	five := []uint64{10, 20, 30, 40, 50}
	for _, x := range []struct {
		l    api.Line
		keys []uint64
		eps  int
		want bool
	}{
		{api.Line{Num: 1, Den: 20, Base: 1}, five, 2, true},
		{api.Line{Num: 1, Den: 20, Base: 0}, five, 2, false},
		{api.Line{Num: 1, Den: 20, Base: 0}, five, 3, true},
		{api.Line{Num: 1, Den: 10, Base: 0}, five, 2, true},
		{api.Line{Num: 3, Den: 30, Base: 0}, five, 2, true},
		{api.Line{Num: 1, Den: 10, Base: 1}, five, 2, true},
		{api.Line{Num: 1, Den: 10, Base: -1}, five, 2, true},
		{api.Line{Num: 1, Den: 10, Base: 2}, five, 2, false},
		{api.Line{Num: 1, Den: 10, Base: -2}, five, 2, false},
		{api.Line{Num: 1, Den: 10, Base: 63}, five, 64, true},
		{api.Line{Num: 1, Den: 10, Base: 64}, five, 64, false},
		{api.Line{Num: 1, Den: 10, Base: -63}, five, 64, true},
		{api.Line{Num: 1, Den: 10, Base: -64}, five, 64, false},
		// What lies above by less than one is rounded down.
		{api.Line{Num: 3, Den: 20, Base: -1}, five, 2, true},
		{api.Line{Num: 79, Den: 400, Base: -1}, five[:4], 2, true},
		{api.Line{Num: 7, Den: 40, Base: -1}, five, 2, false},
		// One key: its distance is 0, whatever the slope.
		{api.Line{Num: top, Den: 1, Base: 1}, []uint64{7}, 2, true},
		{api.Line{Num: top, Den: 1, Base: -1}, []uint64{top}, 2, true},
		{api.Line{Num: top, Den: 1, Base: 2}, []uint64{0}, 2, false},
		{api.Line{Num: 0, Den: 0, Base: 0}, []uint64{7}, 2, false},
		{api.Line{Num: 1, Den: 0, Base: 0}, five, 64, false},
		// Two keys.
		{api.Line{Num: 1, Den: top, Base: 0}, []uint64{0, top}, 2, true},
		{api.Line{Num: 3, Den: top, Base: -1}, []uint64{0, top}, 2, true},
		{api.Line{Num: 3, Den: top, Base: 0}, []uint64{0, top}, 2, false},
		{api.Line{Num: 0, Den: 1, Base: -1}, []uint64{0, top}, 2, false},
		{api.Line{Num: top, Den: 1, Base: 0}, []uint64{0, top}, 64, false},
		// At refuses all, or the last one alone.
		{api.Line{Num: 0, Den: 1, Base: math.MinInt}, five, 64, false},
		{api.Line{Num: 0, Den: 1, Base: math.MaxInt}, five, 64, false},
		{api.Line{Num: 1, Den: 2, Base: 0}, []uint64{0, 1, 2, top}, 64, false},
	} {
		if Fits(x.l, x.keys, x.eps) != x.want {
			t.Errorf("Fits(%v, %v, %d): %v", x.l, x.keys, x.eps, !x.want)
		}
		if plainFits(x.l, x.keys, x.eps) != x.want {
			t.Errorf("the plain Fits(%v, %v, %d): %v", x.l, x.keys, x.eps, !x.want)
		}
	}
}

// P5.3: wrong inputs, with lines that would be near enough to all.
func TestFitsRefuses(t *testing.T) {
	level := api.Line{Num: 0, Den: 1, Base: 0}
	for _, eps := range wrongEps {
		for _, l := range [][]uint64{nil, {7}, {7, 8}} {
			if Fits(level, l, eps) {
				t.Errorf("Fits(%v, %v, %d)", level, l, eps)
			}
		}
	}
	for _, eps := range []int{2, 3, 64} {
		if !Fits(level, []uint64{7, 8}, eps) {
			t.Errorf("Fits(%v, 7 8, %d): false", level, eps)
		}
		for _, l := range [][]uint64{nil, {}, {3, 3}, {4, 3}, {top, 0}, {0, 0}} {
			if Fits(level, l, eps) {
				t.Errorf("Fits(%v, %v, %d)", level, l, eps)
			}
		}
	}
}

// P5.3: lines about those that fit.
func TestFitsIsThePlainOne(t *testing.T) {
	next, fit, unfit := scatter(), 0, 0
	for _, eps := range []int{2, 3, 8, 64} {
		for _, keys := range streams(3*eps + 5) {
			stretches(keys, eps, func(keys []uint64) {
				best := line(t, keys, eps)
				for range 20 {
					l := best
					l.Base += int(next()%7) - 3
					if shift := next() % 40; l.Num < 1<<24 && l.Den < 1<<(63-shift) {
						l.Num, l.Den = l.Num<<shift+next()%3, l.Den<<shift
					}
					got := Fits(l, keys, eps)
					if got != plainFits(l, keys, eps) {
						t.Fatalf("Fits(%v, %v, %d): %v", l, keys, eps, got)
					}
					if got {
						fit++
					} else {
						unfit++
					}
				}
			})
		}
	}
	if fit < 1000 || unfit < 1000 {
		t.Errorf("%d fit, %d do not", fit, unfit)
	}
}

// P5.4
func TestFitsWhatOfTells(t *testing.T) {
	for _, eps := range allEps {
		for _, keys := range streams(200) {
			stretches(keys, eps, func(keys []uint64) {
				if l := line(t, keys, eps); !Fits(l, keys, eps) || !plainFits(l, keys, eps) {
					t.Errorf("eps %d: %v does not fit over %v", eps, l, keys)
				}
			})
		}
	}
}

// near tells whether a line of the slope s, and some height, is within eps - 1 of all ranks: whether what these are above a line of that slope differs by twice that at most.
func near(s *big.Rat, keys []uint64, eps int) bool {
	var low, high *big.Rat
	for i := range keys {
		over := gap(keys, i, s)
		if low == nil || over.Cmp(low) < 0 {
			low = over
		}
		if high == nil || over.Cmp(high) > 0 {
			high = over
		}
	}
	return new(big.Rat).Sub(high, low).Cmp(new(big.Rat).SetInt64(int64(2*(eps-1)))) <= 0
}

// lesser are slopes below num by den, which is above 0: 0, and others up to one that is below it by very little.
func lesser(num, den uint64) []*big.Rat {
	l := []*big.Rat{new(big.Rat)}
	s := rat(whole(num), whole(den))
	for _, bits := range []uint{1, 10, 64, 200} {
		part := new(big.Rat).SetFrac(big.NewInt(1), new(big.Int).Lsh(big.NewInt(1), bits))
		l = append(l, part.Sub(s, part.Mul(part, s)))
	}
	return l
}

// P5.5
func TestLeast(t *testing.T) {
	level, sloped := 0, 0
	for _, eps := range allEps {
		for _, keys := range streams(150) {
			stretches(keys, eps, func(keys []uint64) {
				l := line(t, keys, eps)
				if !near(rat(whole(l.Num), whole(l.Den)), keys, eps) {
					t.Errorf("eps %d: no line of the slope of %v is near to %v", eps, l, keys)
				}
				if l.Num == 0 {
					level++
				} else {
					sloped++
					for _, s := range lesser(l.Num, l.Den) {
						if near(s, keys, eps) {
							t.Errorf("eps %d: a line of the slope %v is near to %v, and %v was told", eps, s, keys, l)
						}
					}
				}
				for _, base := range []int{l.Base - 1, l.Base - 2, l.Base - eps, -1 << 61, -1<<61 - 1, math.MinInt} {
					low := api.Line{Num: l.Num, Den: l.Den, Base: base}
					if Fits(low, keys, eps) || plainFits(low, keys, eps) {
						t.Errorf("eps %d: %v fits over %v, and %v was told", eps, low, keys, l)
					}
				}
			})
		}
	}
	if level < 100 || sloped < 100 {
		t.Errorf("%d level lines, %d others", level, sloped)
	}
}

// P5.5: the lines that are told have Bases below 0, at -e, and above.
func TestBases(t *testing.T) {
	below, at, above := 0, 0, 0
	for _, eps := range allEps {
		for _, keys := range streams(150) {
			stretches(keys, eps, func(keys []uint64) {
				switch base := line(t, keys, eps).Base; {
				case base < 1-eps:
					t.Errorf("eps %d, %v: the Base is %d", eps, keys, base)
				case base == 1-eps:
					at++
				case base < 0:
					below++
				default:
					above++
				}
			})
		}
	}
	if below < 10 || at < 10 || above < 10 {
		t.Errorf("%d Bases below 0, %d of -e, %d others", below, at, above)
	}
}

// P5.6
func TestMoved(t *testing.T) {
	next := scatter()
	for _, eps := range allEps {
		for _, keys := range streams(120) {
			for _, part := range [][]uint64{keys, keys[:1], keys[:2], keys[:min(len(keys), 2*eps)], keys[len(keys)/3:]} {
				low, room := part[0], top-part[len(part)-1]
				want, wantErr := Of(part, eps)
				moves := []uint64{-low, 1 - low, room, room - 1} // wrapped round: down to 0 and 1, up to the last two keys
				if room > 0 {
					moves = append(moves, next()%room)
				}
				for _, by := range moves {
					if low+by+(part[len(part)-1]-low) < low+by {
						continue // beyond the last key
					}
					var moved []uint64
					for _, k := range part {
						moved = append(moved, k+by)
					}
					if l, err := Of(moved, eps); l != want || err != wantErr {
						t.Errorf("eps %d: %v: %v, %v; %v: %v, %v", eps, part, want, wantErr, moved, l, err)
					}
					if wantErr == api.OK && !Fits(want, moved, eps) {
						t.Errorf("eps %d: %v does not fit over %v", eps, want, moved)
					}
				}
			}
		}
	}
}

// P5.1, P5.4: stretches of many keys.
func TestLong(t *testing.T) {
	const n = 200000
	keys := make([]uint64, n)
	for _, eps := range []int{2, 64} {
		for _, step := range []uint64{1, 3, top / n} {
			for i := range keys {
				keys[i] = uint64(i) * step
			}
			e := uint64(eps - 1)
			s := rat(whole(n-1-2*e), whole((n-1)*step))
			want := api.Line{Num: s.Num().Uint64(), Den: s.Denom().Uint64(), Base: eps - 1}
			if l := line(t, keys, eps); l != want || !Fits(l, keys, eps) {
				t.Errorf("eps %d, step %d: %v, want %v", eps, step, l, want)
			}
		}
	}
}

// R4: what is handed in stays as it was, and what it has behind its length is not read.
func TestArgumentsStay(t *testing.T) {
	room := []uint64{10, 20, 30, 40, 50, 50, 3, top}
	was := slices.Clone(room)
	l := line(t, room[:5], 2)
	if l != (api.Line{Num: 1, Den: 20, Base: 1}) || !Fits(l, room[:5], 2) {
		t.Errorf("%v over %v", l, room[:5])
	}
	if !slices.Equal(room, was) {
		t.Errorf("%v became %v", was, room)
	}
}
