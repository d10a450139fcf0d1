package model

import (
	"math"
	"math/big"
	"slices"
	"testing"

	"incline/api"
	"incline/line"
)

const top = math.MaxUint64

var (
	allEps   = []int{2, 3, 4, 8, 17, 63, 64}
	wrongEps = []int{math.MinInt, math.MinInt + 2, -1 << 32, 2 - 1<<32, -64, -2, -1, 0, 1, 65, 66, 128, 258, 1<<32 + 2, math.MaxInt}
	five     = []uint64{10, 20, 30, 40, 50}
	minus0   = math.Copysign(0, -1)
	tiny     = math.SmallestNonzeroFloat64
)

// scatter gives words without a pattern, of all lengths, always the same ones.
func scatter() func() uint64 {
	x := uint64(0x9e3779b97f4a7c15)
	next := func() uint64 {
		x ^= x << 13
		x ^= x >> 7
		x ^= x << 17
		return x
	}
	return func() uint64 { return next() >> (next() % 64) }
}

// streams are rising keys of many kinds, n at most (fewer where the next one would be beyond).
func streams(n int) [][]uint64 {
	next := scatter()
	gaps := []func(i int) uint64{
		func(i int) uint64 { return 1 },
		func(i int) uint64 { return 10 },
		func(i int) uint64 { return top / uint64(n) },
		func(i int) uint64 { return 1 + next()%3 },
		func(i int) uint64 { return 1 + next()%1000 },
		func(i int) uint64 { return 1 + next()%(top/uint64(n)) },
		func(i int) uint64 { return uint64(i + 1) },
		func(i int) uint64 { return uint64(2*n - i) },
		func(i int) uint64 { return uint64(1 + i%7*i%11) },
		func(i int) uint64 { return 1 << 40 / uint64(i+3) },
		func(i int) uint64 { return 1 << min(i/3, 62) },
		func(i int) uint64 { return 1<<30*uint64(i%13/12) + 1 },
		func(i int) uint64 { return 1<<57>>min(i, 57) + 1 },
		func(i int) uint64 { return 1 + 1000*uint64(1-i/15%2) },
	}
	var all [][]uint64
	for g, gap := range gaps {
		k := []uint64{0, 7, 1 << 33}[g%3]
		l := []uint64{k}
		for i := 1; i < n; i++ {
			d := gap(i)
			if d > top-k {
				l = append(l, top)
				break
			}
			k += d
			l = append(l, k)
		}
		all = append(all, l)
	}
	return all
}

// segment is that of keys that have one.
func segment(t *testing.T, keys []uint64, eps, from int) api.Segment {
	t.Helper()
	s, err := Of(keys, eps, from)
	if err != api.OK {
		t.Fatalf("Of(%v, %d, %d): %v", keys, eps, from, err)
	}
	return s
}

// stretches hands over pieces of keys, from the first one on, each as long as it has a line, and a few shorter beginnings of each.
func stretches(keys []uint64, eps int, do func(keys []uint64)) {
	for len(keys) > 0 {
		n := 1
		for n < len(keys) {
			if _, err := line.Of(keys[:n+1], eps); err != api.OK {
				break
			}
			n++
		}
		for _, part := range []int{1, 2, n / 2, n - 1, n} {
			if part > 0 && part <= n {
				do(keys[:part])
			}
		}
		keys = keys[n:]
	}
}

// froms are places where a stretch of n keys may begin, the least and the greatest ones among them.
func froms(n int) []int {
	return []int{0, 1, 2, 63, 1000, 1 << 31, 1<<32 - n - 1, 1<<32 - n}
}

// slopes are some of all that may be, from the least to the greatest.
func slopes() []float64 {
	return []float64{0, tiny, 1e-300, 0x1p-64, 0x1.5555555555555p-40, 0.05, 1.0 / 3, 1, math.Nextafter(2, 0), 2}
}

// intercepts are some of all that may be.
func intercepts() []float64 {
	return []float64{-math.MaxFloat64, -1e300, -0x1p64, -0x1p63, -0x1p32, -4.5, -1, -0.5, -tiny, minus0, 0, tiny, 0.5, 1, 3.999, 1000, 0x1p32, 0x1p63, 0x1p64, 1e300, math.MaxFloat64}
}

// P7.1: every stretch with every slope and every intercept: what is wrong of several is the first of the three.
func TestCheck(t *testing.T) {
	type stretch struct{ from, to int }
	rightStretch := []stretch{{0, 1}, {0, 5}, {0, 1 << 32}, {1, 2}, {1000, 1005}, {1<<32 - 1, 1 << 32}, {1 << 31, 1<<31 + 1}}
	wrongStretch := []stretch{{0, 0}, {5, 5}, {5, 4}, {-1, 1}, {-1, 0}, {-2, -1}, {-1, -1}, {math.MinInt, 1}, {math.MinInt, math.MaxInt}, {math.MinInt, math.MinInt}, {0, math.MinInt}, {-1 << 32, 5},
		{0, 1<<32 + 1}, {1<<32 - 1, 1<<32 + 1}, {1 << 32, 1 << 32}, {1 << 32, 1<<32 + 1}, {0, math.MaxInt}, {math.MaxInt, math.MaxInt}, {math.MaxInt, math.MinInt}, {1 << 32, 1}}
	wrongSlope := []float64{math.NaN(), -math.NaN(), math.Float64frombits(0x7ff0000000000001), math.Float64frombits(0xfff0000000000001), minus0, -tiny, -1, -2, -2.5, math.Inf(-1), math.Inf(1), 2.5, math.Nextafter(2, 3), math.MaxFloat64, -math.MaxFloat64}
	wrongIntercept := []float64{math.NaN(), math.Float64frombits(0xfff0000000000001), math.Inf(1), math.Inf(-1)}
	for i, x := range slices.Concat(rightStretch, wrongStretch) {
		for j, slope := range slices.Concat(slopes(), wrongSlope) {
			for k, intercept := range slices.Concat(intercepts(), wrongIntercept) {
				want := api.OK
				if k >= len(intercepts()) {
					want = api.ErrModelIntercept
				}
				if j >= len(slopes()) {
					want = api.ErrModelSlope
				}
				if i >= len(rightStretch) {
					want = api.ErrModelStretch
				}
				for _, first := range []uint64{0, 10, top} {
					s := api.Segment{First: first, Slope: slope, Intercept: intercept, From: x.from, To: x.to}
					if err := Check(s); err != want {
						t.Errorf("Check(%v): %v, want %v", s, err, want)
					}
				}
			}
		}
	}
}

// P7.1: the chapter's examples.
func TestCheckExamples(t *testing.T) {
	s := segment(t, five, 2, 0)
	if err := Check(s); err != api.OK {
		t.Errorf("Check(%v): %v", s, err)
	}
	for _, x := range []struct {
		change func(s *api.Segment)
		want   api.Errno
	}{
		{func(s *api.Segment) { s.To = 0 }, api.ErrModelStretch},
		{func(s *api.Segment) { s.Slope = minus0 }, api.ErrModelSlope},
		{func(s *api.Segment) { s.Slope = 2.5 }, api.ErrModelSlope},
		{func(s *api.Segment) { s.Intercept = math.Inf(1) }, api.ErrModelIntercept},
		{func(s *api.Segment) { s.Intercept, s.Slope, s.To = math.Inf(1), 2.5, 0 }, api.ErrModelStretch},
		{func(s *api.Segment) { s.Intercept, s.Slope = math.Inf(1), 2.5 }, api.ErrModelSlope},
	} {
		wrong := s
		x.change(&wrong)
		if err := Check(wrong); err != x.want {
			t.Errorf("Check(%v): %v, want %v", wrong, err, x.want)
		}
	}
}

// same tells whether two segments are so to the last bit: a -0 is no +0.
func same(a, b api.Segment) bool {
	return a == b && math.Signbit(a.Slope) == math.Signbit(b.Slope) && math.Signbit(a.Intercept) == math.Signbit(b.Intercept)
}

// P7.2
func TestOfExamples(t *testing.T) {
	for _, x := range []struct {
		keys      []uint64
		eps, from int
		want      api.Segment
	}{
		{five, 2, 0, api.Segment{First: 10, Slope: 0.05, Intercept: 1, From: 0, To: 5}},
		{five, 2, 1000, api.Segment{First: 10, Slope: 0.05, Intercept: 1001, From: 1000, To: 1005}},
		{five, 2, 1<<32 - 5, api.Segment{First: 10, Slope: 0.05, Intercept: 1<<32 - 4, From: 1<<32 - 5, To: 1 << 32}},
		{five, 64, 0, api.Segment{First: 10, Slope: 0, Intercept: -59, From: 0, To: 5}},
		// One key, and two: Intercepts below 0, of 0, and above.
		{[]uint64{7}, 2, 0, api.Segment{First: 7, Intercept: -1, From: 0, To: 1}},
		{[]uint64{7}, 2, 1, api.Segment{First: 7, Intercept: 0, From: 1, To: 2}},
		{[]uint64{7}, 2, 2, api.Segment{First: 7, Intercept: 1, From: 2, To: 3}},
		{[]uint64{0}, 64, 0, api.Segment{First: 0, Intercept: -63, From: 0, To: 1}},
		{[]uint64{top}, 64, 63, api.Segment{First: top, Intercept: 0, From: 63, To: 64}},
		{[]uint64{top}, 2, 1<<32 - 1, api.Segment{First: top, Intercept: 1<<32 - 2, From: 1<<32 - 1, To: 1 << 32}},
		{[]uint64{0, top}, 2, 0, api.Segment{First: 0, Intercept: 0, From: 0, To: 2}},
		{[]uint64{0, top}, 2, 1<<32 - 2, api.Segment{First: 0, Intercept: 1<<32 - 2, From: 1<<32 - 2, To: 1 << 32}},
		{[]uint64{top - 1, top}, 64, 0, api.Segment{First: top - 1, Intercept: -62, From: 0, To: 2}},
		// From the first key that may be to the last one.
		{[]uint64{0, 1, 2, top}, 2, 0, api.Segment{First: 0, Slope: 0x1p-64, Intercept: 1, From: 0, To: 4}},
		{[]uint64{0, 1, 2, 3}, 2, 9, api.Segment{First: 0, Slope: 1.0 / 3, Intercept: 10, From: 9, To: 13}},
	} {
		if s, err := Of(x.keys, x.eps, x.from); !same(s, x.want) || err != api.OK {
			t.Errorf("Of(%v, %d, %d): %v, %v, want %v", x.keys, x.eps, x.from, s, err, x.want)
		}
	}
}

// P7.2: the line's slope as the nearest float, and whole places.
func TestOfIsTheLine(t *testing.T) {
	below, zero, above, level, rounded := 0, 0, 0, 0, 0
	for _, eps := range allEps {
		for _, all := range streams(3*eps + 30) {
			stretches(all, eps, func(keys []uint64) {
				l, err := line.Of(keys, eps)
				if err != api.OK {
					t.Fatalf("no line over %v: %v", keys, err)
				}
				slope, exact := new(big.Rat).SetFrac(new(big.Int).SetUint64(l.Num), new(big.Int).SetUint64(l.Den)).Float64()
				if slope == 0 {
					level++
				} else if !exact {
					rounded++
				}
				for _, from := range append(froms(len(keys)), -min(l.Base, 0)) {
					want := api.Segment{First: keys[0], Slope: slope, Intercept: float64(from + l.Base), From: from, To: from + len(keys)}
					s := segment(t, keys, eps, from)
					if !same(s, want) || math.Signbit(s.Slope) || s.Intercept == 0 && math.Signbit(s.Intercept) {
						t.Fatalf("Of(%v, %d, %d): %v, want %v", keys, eps, from, s, want)
					}
					if err := Check(s); err != api.OK {
						t.Fatalf("Of(%v, %d, %d): %v: %v", keys, eps, from, s, err)
					}
					switch {
					case s.Intercept < 0:
						below++
					case s.Intercept == 0:
						zero++
					default:
						above++
					}
				}
			})
		}
	}
	if min(below, zero, above, level, rounded) < 50 {
		t.Errorf("Intercepts: %d below 0, %d of 0, %d above; slopes: %d of 0, %d rounded", below, zero, above, level, rounded)
	}
}

// P7.2: wrong inputs, and which of several is told.
func TestOfRefuses(t *testing.T) {
	refused := func(keys []uint64, eps, from int, want api.Errno) {
		t.Helper()
		if s, err := Of(keys, eps, from); !same(s, api.Segment{}) || err != want {
			t.Errorf("Of(%v, %d, %d): %v, %v, want %v", keys, eps, from, s, err, want)
		}
	}
	right := [][]uint64{{7}, {0, top}, five}
	fallen := [][]uint64{nil, {}, {3, 3}, {0, 0}, {4, 3}, {top, 0}, {1, 2, 2}, {1, 2, 3, 4, 4}}
	unfit := [][]uint64{{0, 1, 2, 3, top}, {0, 1, 2, 3, 100}, {0, top - 3, top - 2, top - 1, top}}
	wrongFrom := func(n int) []int {
		return []int{-1, -2, -5, -1 << 31, -1 << 32, math.MinInt, math.MinInt + 7, 1<<32 - n + 1, 1 << 32, 1<<32 + 1, 1<<33 - n, math.MaxInt - n, math.MaxInt}
	}
	for _, l := range slices.Concat(right, fallen, unfit) {
		for _, from := range append(wrongFrom(len(l)), froms(len(l))...) {
			for _, eps := range wrongEps {
				refused(l, eps, from, api.ErrArg)
			}
		}
	}
	for _, eps := range []int{2, 3, 64} {
		for _, l := range fallen {
			for _, from := range append(wrongFrom(len(l)), froms(len(l))...) {
				refused(l, eps, from, api.ErrLineOrder)
			}
		}
		for _, l := range right {
			for _, from := range wrongFrom(len(l)) {
				refused(l, eps, from, api.ErrArg)
			}
			segment(t, l, eps, 0)
			segment(t, l, eps, 1<<32-len(l))
		}
	}
	for _, l := range unfit {
		for _, from := range append(wrongFrom(len(l)), froms(len(l))...) {
			refused(l, 2, from, api.ErrLineFit)
		}
		segment(t, l, 64, 0)
	}
}

// plainGuess is Guess by the promise's own words, of a segment that is right and has no subnormal part: floats of 53 bits are rounded step by step, and then held against whole numbers.
func plainGuess(s api.Segment, q uint64) int {
	float := func() *big.Float { return new(big.Float).SetPrec(53).SetMode(big.ToNearestEven) }
	far := float()
	if q > s.First {
		far.SetUint64(q - s.First)
	}
	at := float().Mul(far, float().SetFloat64(s.Slope))
	at = float().Add(at, float().SetFloat64(s.Intercept))
	if at.Cmp(new(big.Float).SetInt64(int64(s.From))) < 0 {
		return s.From
	}
	if at.Cmp(new(big.Float).SetInt64(int64(s.To))) > 0 {
		return s.To
	}
	n, _ := at.Int64() // towards 0, which is down here
	return int(n)
}

// P7.3
func TestGuessExamples(t *testing.T) {
	s := segment(t, five, 2, 0)
	moved := segment(t, five, 2, 1000)
	last := segment(t, five, 2, 1<<32-5)
	for _, x := range []struct {
		q    uint64
		want int
	}{{10, 1}, {30, 2}, {50, 3}, {35, 2}, {5, 1}, {0, 1}, {9, 1}, {11, 1}, {29, 1}, {49, 2}, {51, 3}, {69, 3}, {70, 4}, {89, 4}, {90, 5}, {91, 5}, {110, 5}, {top - 1, 5}, {top, 5}} {
		if n := Guess(s, x.q); n != x.want {
			t.Errorf("Guess(%v, %d): %d, want %d", s, x.q, n, x.want)
		}
		if n := Guess(moved, x.q); n != 1000+x.want {
			t.Errorf("Guess(%v, %d): %d, want %d", moved, x.q, n, 1000+x.want)
		}
		if n := Guess(last, x.q); n != 1<<32-5+x.want {
			t.Errorf("Guess(%v, %d): %d, want %d", last, x.q, n, 1<<32-5+x.want)
		}
	}
}

// P7.3: segments that Of did not make, and places that are brought to From and to To.
func TestGuessEdges(t *testing.T) {
	for _, x := range []struct {
		s    api.Segment
		q    uint64
		want int
	}{
		// A Slope of 0: all keys alike.
		{api.Segment{First: 10, Intercept: 3, From: 1, To: 9}, 0, 3},
		{api.Segment{First: 10, Intercept: 3, From: 1, To: 9}, top, 3},
		{api.Segment{First: 10, Intercept: 3.999, From: 1, To: 9}, 500, 3},
		{api.Segment{First: 10, Intercept: 0.5, From: 1, To: 9}, 500, 1},
		{api.Segment{First: 10, Intercept: 1, From: 1, To: 9}, 500, 1},
		{api.Segment{First: 10, Intercept: 9, From: 1, To: 9}, 500, 9},
		{api.Segment{First: 10, Intercept: 8.999, From: 1, To: 9}, 500, 8},
		{api.Segment{First: 10, Intercept: 9.001, From: 1, To: 9}, 500, 9},
		{api.Segment{First: 10, Intercept: minus0, From: 0, To: 9}, 500, 0},
		{api.Segment{First: 10, Intercept: -0.5, From: 0, To: 9}, 500, 0},
		{api.Segment{First: 10, Intercept: -1e300, From: 2, To: 9}, top, 2},
		{api.Segment{First: 10, Intercept: 1e300, From: 2, To: 9}, 0, 9},
		{api.Segment{First: 10, Intercept: math.MaxFloat64, Slope: 2, From: 2, To: 9}, top, 9},
		{api.Segment{First: 10, Intercept: -math.MaxFloat64, Slope: 2, From: 2, To: 9}, top, 2},
		{api.Segment{First: 0, Intercept: 0x1p63, Slope: 2, From: 2, To: 9}, top, 9},
		{api.Segment{First: 0, Intercept: -0x1p63, Slope: 0, From: 2, To: 9}, top, 2},
		// The greatest Slope.
		{api.Segment{First: 10, Slope: 2, From: 0, To: 1 << 32}, 9, 0},
		{api.Segment{First: 10, Slope: 2, From: 0, To: 1 << 32}, 10, 0},
		{api.Segment{First: 10, Slope: 2, From: 0, To: 1 << 32}, 11, 2},
		{api.Segment{First: 10, Slope: 2, Intercept: -3, From: 0, To: 1 << 32}, 11, 0},
		{api.Segment{First: 10, Slope: 2, Intercept: -3, From: 0, To: 1 << 32}, 12, 1},
		{api.Segment{First: 10, Slope: 2, From: 0, To: 1 << 32}, 1<<31 + 9, 1<<32 - 2},
		{api.Segment{First: 10, Slope: 2, From: 0, To: 1 << 32}, 1<<31 + 10, 1 << 32},
		{api.Segment{First: 10, Slope: 2, From: 0, To: 1 << 32}, top, 1 << 32},
		// The distance is a whole number first: between top - 4 and top, floats know no others.
		{api.Segment{First: top - 4, Slope: 1, From: 0, To: 9}, top - 1, 3},
		{api.Segment{First: top - 4, Slope: 1, From: 0, To: 9}, top, 4},
		{api.Segment{First: top - 4, Slope: 1, From: 0, To: 9}, top - 5, 0},
		{api.Segment{First: top, Slope: 2, Intercept: 5, From: 0, To: 9}, top, 5},
		{api.Segment{First: top, Slope: 2, Intercept: 5, From: 0, To: 9}, 0, 5},
		{api.Segment{First: 0, Slope: 1, From: 0, To: 9}, 7, 7},
		// Above 2^53 odd numbers are no floats: 2^53 + 1 becomes 2^53, 2^53 + 3 becomes 2^53 + 4.
		{api.Segment{First: 0, Slope: 0x1p-40, Intercept: -0x1p13, From: 0, To: 9}, 1<<53 + 1<<40 - 2, 0},
		{api.Segment{First: 0, Slope: 0x1p-40, Intercept: -0x1p13, From: 0, To: 9}, 1<<53 + 1<<40 - 1, 1},
		{api.Segment{First: 0, Slope: 1, Intercept: -0x1p53, From: 0, To: 9}, 1<<53 + 1, 0},
		{api.Segment{First: 0, Slope: 1, Intercept: -0x1p53, From: 0, To: 9}, 1<<53 + 3, 4},
		// The product is rounded by itself: 0.1 times 10 is 1 then, and a little above 1 otherwise; 0.1 times 3 is above 0.3 by more than it should.
		{api.Segment{First: 0, Slope: 0.1, Intercept: -1, From: 0, To: 9}, 10, 0},
		{api.Segment{First: 0, Slope: 0.1, Intercept: 1 - 0.30000000000000004, From: 0, To: 9}, 3, 1},
		// Slopes that hardly rise.
		{api.Segment{First: 0, Slope: tiny, Intercept: 1, From: 0, To: 9}, top, 1},
		{api.Segment{First: 0, Slope: tiny, Intercept: -tiny, From: 0, To: 9}, 1, 0},
		{api.Segment{First: 0, Slope: 0x1p-64, Intercept: 0, From: 0, To: 9}, top, 1},
		{api.Segment{First: 0, Slope: 0x1p-64, Intercept: 0, From: 0, To: 9}, top - 1<<12, 0},
	} {
		if n := Guess(x.s, x.q); n != x.want {
			t.Errorf("Guess(%v, %d): %d, want %d", x.s, x.q, n, x.want)
		}
	}
}

// P7.3: of what is not right the Guess is 0, though 0 is not from From to To.
func TestGuessOfWrong(t *testing.T) {
	right := api.Segment{First: 10, Slope: 1, Intercept: 7, From: 5, To: 9}
	if n := Guess(right, 11); n != 8 {
		t.Errorf("Guess(%v, 11): %d", right, n)
	}
	for _, change := range []func(s *api.Segment){
		func(s *api.Segment) { s.From = -1 },
		func(s *api.Segment) { s.From = 9 },
		func(s *api.Segment) { s.From = 10 },
		func(s *api.Segment) { s.From, s.To = -9, -5 },
		func(s *api.Segment) { s.From = math.MinInt },
		func(s *api.Segment) { s.To = 1<<32 + 1 },
		func(s *api.Segment) { s.To = math.MaxInt },
		func(s *api.Segment) { s.Slope = math.NaN() },
		func(s *api.Segment) { s.Slope = minus0 },
		func(s *api.Segment) { s.Slope = -1 },
		func(s *api.Segment) { s.Slope = math.Inf(1) },
		func(s *api.Segment) { s.Slope = math.Nextafter(2, 3) },
		func(s *api.Segment) { s.Intercept = math.NaN() },
		func(s *api.Segment) { s.Intercept = math.Inf(1) },
		func(s *api.Segment) { s.Intercept = math.Inf(-1) },
		func(s *api.Segment) { s.Slope, s.Intercept = math.Inf(1), math.Inf(-1) },
	} {
		wrong := right
		change(&wrong)
		for _, q := range []uint64{0, 10, 11, 500, top} {
			if n := Guess(wrong, q); n != 0 {
				t.Errorf("Guess(%v, %d): %d", wrong, q, n)
			}
		}
	}
}

// rightSegments are many that are right, whoever might have made them.
func rightSegments() []api.Segment {
	next := scatter()
	var all []api.Segment
	for _, slope := range slopes() {
		for _, intercept := range intercepts() {
			for _, place := range [][2]int{{0, 1}, {0, 5}, {0, 1 << 32}, {1000, 1100}, {1<<32 - 1, 1 << 32}} {
				all = append(all, api.Segment{First: next(), Slope: slope, Intercept: intercept, From: place[0], To: place[1]})
			}
		}
	}
	for range 1000 {
		from := int(next() % (1 << 32))
		to := from + 1 + int(next()%uint64(1<<32-from))
		slope := math.Float64frombits((next()<<13^next())%(math.Float64bits(2)-1<<52) + 1<<52)
		intercept := float64(from) + float64(int64(next()))/float64(1+next()%1000)
		all = append(all, api.Segment{First: next(), Slope: slope, Intercept: intercept, From: from, To: to})
	}
	return all
}

// askedOf are keys to ask a segment for, rising: about its First, about those where its prediction passes From and To, and others.
func askedOf(s api.Segment, next func() uint64) []uint64 {
	l := []uint64{0, 1, s.First / 2, s.First - 1, s.First, s.First + 1, s.First + 2, top - 1, top}
	for i := range 64 {
		l = append(l, s.First+1<<i, next(), s.First+next())
	}
	for _, n := range []int{s.From, s.From + 1, s.To - 1, s.To} {
		if at := (float64(n) - s.Intercept) / s.Slope; at >= 0 && at < 1<<63 {
			for by := range uint64(5) {
				l = append(l, s.First+uint64(at)+by-2)
			}
		}
	}
	slices.Sort(l)
	return slices.Compact(l)
}

// P7.3
func TestGuessIsThePlainOne(t *testing.T) {
	next, low, high, between := scatter(), 0, 0, 0
	for _, s := range rightSegments() {
		if err := Check(s); err != api.OK {
			t.Fatalf("Check(%v): %v", s, err)
		}
		if s.Slope == tiny || math.Abs(s.Intercept) == tiny {
			continue // the plain one has no subnormals
		}
		for _, q := range askedOf(s, next) {
			n := Guess(s, q)
			if want := plainGuess(s, q); n != want {
				t.Fatalf("Guess(%v, %d): %d, want %d", s, q, n, want)
			}
			switch n {
			case s.From:
				low++
			case s.To:
				high++
			default:
				between++
			}
		}
	}
	if min(low, high, between) < 1000 {
		t.Errorf("%d are From, %d are To, %d are between", low, high, between)
	}
}

// P7.3: of the segments that Of makes.
func TestGuessOfMade(t *testing.T) {
	next := scatter()
	for _, eps := range []int{2, 8, 64} {
		for _, all := range streams(100) {
			stretches(all, eps, func(keys []uint64) {
				for _, from := range []int{0, 1<<32 - len(keys)} {
					s := segment(t, keys, eps, from)
					for _, q := range slices.Concat(keys, askedOf(s, next)) {
						if n, want := Guess(s, q), plainGuess(s, q); n != want {
							t.Fatalf("Guess(%v, %d): %d, want %d", s, q, n, want)
						}
					}
				}
			})
		}
	}
}

// plainOff is Off by the promise's own words, of a right segment over its keys.
func plainOff(s api.Segment, keys []uint64) int {
	worst := 0
	for i, k := range keys {
		if by := Guess(s, k) - s.From - i; by > worst {
			worst = by
		} else if -by > worst {
			worst = -by
		}
	}
	return worst
}

// P7.4
func TestOffExamples(t *testing.T) {
	made := segment(t, five, 2, 0)
	for _, x := range []struct {
		s    api.Segment
		keys []uint64
		want int
	}{
		{made, five, 1},
		{segment(t, five, 2, 1000), five, 1},
		{segment(t, []uint64{7}, 2, 0), []uint64{7}, 0},                    // -1 is brought to From
		{segment(t, []uint64{7}, 64, 1<<32-1), []uint64{7}, 0},             // far below, likewise
		{segment(t, []uint64{7, 8}, 2, 5), []uint64{7, 8}, 1},              // always 5
		{segment(t, []uint64{0, top}, 64, 5), []uint64{0, top}, 1},         // -57, brought to 5
		{api.Segment{First: 10, Slope: 0.1, From: 0, To: 5}, five, 0},      // the very places
		{api.Segment{First: 10, From: 0, To: 5}, five, 4},                  // always 0: the last key's is the worst
		{api.Segment{First: 10, Intercept: 2, From: 0, To: 5}, five, 2},    // both ends
		{api.Segment{First: 10, Intercept: 1e9, From: 0, To: 5}, five, 5},  // always To: the first key's is the worst
		{api.Segment{First: 10, Intercept: -1e9, From: 3, To: 8}, five, 4}, // always From
		{api.Segment{First: 10, Slope: 2, From: 0, To: 5}, five, 4},        // To, from the second key on
		{api.Segment{First: top, From: 8, To: 9}, []uint64{top}, 0},
		{api.Segment{First: top, Intercept: 9, From: 8, To: 9}, []uint64{top}, 1},
		{api.Segment{First: 0, Slope: 0x1p-64, Intercept: 8, From: 8, To: 10}, []uint64{0, top}, 0},
	} {
		if n, err := Off(x.s, x.keys); n != x.want || err != api.OK {
			t.Errorf("Off(%v, %v): %d, %v, want %d", x.s, x.keys, n, err, x.want)
		}
	}
}

// P7.4: wrong inputs, and which of several is told.
func TestOffRefuses(t *testing.T) {
	refused := func(s api.Segment, keys []uint64, want api.Errno) {
		t.Helper()
		if n, err := Off(s, keys); n != 0 || err != want {
			t.Errorf("Off(%v, %v): %d, %v, want %v", s, keys, n, err, want)
		}
	}
	s := api.Segment{First: 10, Slope: 0, Intercept: 0, From: 1000, To: 1005}
	wrong := [][]uint64{nil, {}, {10}, five[:4], {10, 20, 30, 40, 50, 60}, five[1:], {11, 20, 30, 40, 50}, {9, 20, 30, 40, 50}, {0, 20, 30, 40, 50},
		{10, 20, 20, 40, 50}, {10, 10, 30, 40, 50}, {10, 20, 30, 50, 50}, {10, 20, 30, 50, 40}, {10, 5, 30, 40, 50}, {10, top, 0, 1, 2}, {11, 11, 11, 11, 11}, {11, 5}}
	for _, l := range wrong {
		refused(s, l, api.ErrArg)
	}
	refused(api.Segment{First: 10, From: 0, To: 1 << 32}, five, api.ErrArg)
	refused(api.Segment{First: 10, From: 0, To: 5 + 1<<31}, five, api.ErrArg)
	if n, err := Off(s, five); n != 4 || err != api.OK {
		t.Errorf("Off(%v, %v): %d, %v", s, five, n, err)
	}
	for _, l := range append(wrong, five) {
		for _, x := range []struct {
			change func(s *api.Segment)
			want   api.Errno
		}{
			{func(s *api.Segment) { s.From, s.To = -1, 4 }, api.ErrModelStretch},
			{func(s *api.Segment) { s.To = s.From }, api.ErrModelStretch},
			{func(s *api.Segment) { s.From, s.To = 5, 0 }, api.ErrModelStretch},
			{func(s *api.Segment) { s.From, s.To = 1<<32-4, 1<<32+1 }, api.ErrModelStretch},
			{func(s *api.Segment) { s.From, s.To = math.MaxInt, math.MinInt+4 }, api.ErrModelStretch}, // To less From, wrapped round, is 5
			{func(s *api.Segment) { s.Slope = minus0 }, api.ErrModelSlope},
			{func(s *api.Segment) { s.Slope = math.NaN() }, api.ErrModelSlope},
			{func(s *api.Segment) { s.Intercept = math.NaN() }, api.ErrModelIntercept},
			{func(s *api.Segment) { s.Intercept = math.Inf(-1) }, api.ErrModelIntercept},
		} {
			bad := s
			x.change(&bad)
			refused(bad, l, x.want)
		}
	}
}

// others are right segments over the same keys as s: shifted, flatter, steeper, or with floats that have nothing to do with them.
func others(s api.Segment, next func() uint64) []api.Segment {
	all := []api.Segment{s}
	for _, by := range []float64{-100, -3, -1, -0.5, 0.25, 1, 2.5, 50} {
		moved, turned := s, s
		moved.Intercept += by
		turned.Slope = min(2, s.Slope*math.Abs(by))
		all = append(all, moved, turned)
	}
	for range 4 {
		l, m := slopes(), intercepts()
		odd := s
		odd.Slope, odd.Intercept = l[next()%uint64(len(l))], m[next()%uint64(len(m))]
		half := odd
		half.Intercept = s.Intercept
		all = append(all, odd, half)
	}
	return all
}

// P7.4
func TestOffIsThePlainOne(t *testing.T) {
	next := scatter()
	seen := map[int]int{}
	for _, eps := range []int{2, 3, 8, 64} {
		for _, all := range streams(3*eps + 10) {
			stretches(all, eps, func(keys []uint64) {
				for _, s := range others(segment(t, keys, eps, int(next()%(1<<31))), next) {
					n, err := Off(s, keys)
					if want := plainOff(s, keys); n != want || err != api.OK {
						t.Fatalf("Off(%v, %v): %d, %v, want %d", s, keys, n, err, want)
					}
					seen[n]++
				}
			})
		}
	}
	if seen[0] < 10 || seen[1] < 100 || seen[2] < 100 || len(seen) < 50 {
		t.Errorf("how often each was off: %v", seen)
	}
}

// P7.5
func TestBound(t *testing.T) {
	seen := map[int]int{}
	for eps := 2; eps <= 64; eps++ {
		for _, all := range streams(3*eps + 60) {
			stretches(all, eps, func(keys []uint64) {
				for _, from := range []int{0, 1, eps, 1 << 31, 1<<32 - len(keys)} {
					n, err := Off(segment(t, keys, eps, from), keys)
					if n > eps || err != api.OK {
						t.Fatalf("eps %d, from %d, %v: off by %d, %v", eps, from, keys, n, err)
					}
					seen[n-eps]++
				}
			})
		}
	}
	if seen[-1] < 1000 {
		t.Errorf("how much less than eps each was off: %v", seen)
	}
}

// P7.5: stretches of many keys, at both ends of the places and of the keys.
func TestBoundLong(t *testing.T) {
	const n = 200000
	next := scatter()
	keys := make([]uint64, n)
	for _, eps := range []int{2, 64} {
		for _, step := range []uint64{1, 3, 1<<40 + 1, top / n} {
			for _, base := range []uint64{0, top - n*step} {
				for i := range keys {
					keys[i] = base + uint64(i)*step + next()%step
				}
				l := keys
				s, err := Of(l, eps, 0)
				for err == api.ErrLineFit {
					l = l[:len(l)/2]
					s, err = Of(l, eps, 0)
				}
				for _, from := range []int{0, 1 << 31, 1<<32 - len(l)} {
					s = segment(t, l, eps, from)
					if off, err := Off(s, l); off > eps || err != api.OK {
						t.Errorf("eps %d, %d keys from %d, step %d, at %d: off by %d, %v", eps, len(l), base, step, from, off, err)
					}
				}
			}
		}
	}
}

// P7.6
func TestGuessNeverFalls(t *testing.T) {
	next, rises := scatter(), 0
	for _, s := range rightSegments() {
		last := s.From
		for _, q := range askedOf(s, next) {
			n := Guess(s, q)
			if n < last || n > s.To {
				t.Fatalf("Guess(%v, %d): %d, and %d below", s, q, n, last)
			}
			if n > last {
				rises++
			}
			last = n
		}
	}
	if rises < 1000 {
		t.Errorf("%d rises", rises)
	}
}

// P7.6: key by key, where the floats of the distances are sparse, and where the product just reaches a whole number.
func TestGuessNeverFallsKeyByKey(t *testing.T) {
	for _, s := range []api.Segment{
		{First: 3, Slope: 0.1, Intercept: -2, From: 0, To: 20},
		{First: 3, Slope: 1.0 / 3, Intercept: 0.7, From: 1, To: 60},
		{First: 0, Slope: 1, Intercept: -0x1p53, From: 0, To: 400},
		{First: 0, Slope: math.Nextafter(2, 0), Intercept: -0x1p54, From: 5, To: 400},
		{First: 0, Slope: 0x1p-11, Intercept: -0x1p52, From: 0, To: 400},
		{First: 7, Slope: 0.05, Intercept: 1<<32 - 20, From: 1<<32 - 20, To: 1 << 32},
	} {
		for _, begin := range []uint64{0, 1<<53 - 200, 1<<63 - 200, top - 400} {
			last := s.From
			for by := range uint64(400) {
				n := Guess(s, begin+by)
				if n < last || n > s.To {
					t.Errorf("Guess(%v, %d): %d, and %d one below", s, begin+by, n, last)
				}
				last = n
			}
		}
	}
}

// between are keys to ask for from a stretch's first key on: each of its keys, what is about them, and some behind the last one.
func between(keys []uint64, next func() uint64) []uint64 {
	var l []uint64
	for i, k := range keys {
		room := top - k
		if i+1 < len(keys) {
			room = keys[i+1] - k - 1
		}
		l = append(l, k, k+room, k+room/2, k+min(room, 1))
		if room > 0 {
			l = append(l, k+next()%room)
		}
	}
	return l
}

// P7.7
func TestOffAndOne(t *testing.T) {
	next := scatter()
	whole, atOnce := 0, 0
	for _, eps := range []int{2, 3, 8, 64} {
		for _, all := range streams(3*eps + 10) {
			stretches(all, eps, func(keys []uint64) {
				asked := between(keys, next)
				for _, s := range others(segment(t, keys, eps, int(next()%(1<<31))), next) {
					off, err := Off(s, keys)
					if err != api.OK {
						t.Fatalf("Off(%v, %v): %v", s, keys, err)
					}
					for _, q := range asked {
						rank, there := slices.BinarySearch(keys, q)
						by := Guess(s, q) - s.From - rank
						by = max(by, -by)
						if by > off+1 || there && by > off {
							t.Fatalf("Guess(%v, %d) over %v: off by %d, and by %d at the keys", s, q, keys, by, off)
						}
						whole++
						if by == off+1 {
							atOnce++
						}
					}
				}
			})
		}
	}
	if whole < 100000 || atOnce < 1000 {
		t.Errorf("%d Guesses, %d of them off by one more than at the keys", whole, atOnce)
	}
}

// R4: what is handed in stays as it was, and what it has behind its length is not read.
func TestArgumentsStay(t *testing.T) {
	room := []uint64{10, 20, 30, 40, 50, 50, 3, top}
	was := slices.Clone(room)
	s := segment(t, room[:5], 2, 0)
	if n, err := Off(s, room[:5]); !same(s, segment(t, five, 2, 0)) || n != 1 || err != api.OK {
		t.Errorf("%v over %v: %d, %v", s, room[:5], n, err)
	}
	if !slices.Equal(room, was) {
		t.Errorf("%v became %v", was, room)
	}
}
