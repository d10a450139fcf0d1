package ratio

import (
	"math"
	"math/big"
	"testing"

	"incline/api"
)

// scatter gives words without a pattern, of all lengths, always the same ones.
func scatter() func() uint64 {
	x := uint64(0x9e3779b97f4a7c15)
	next := func() uint64 {
		x ^= x << 13
		x ^= x >> 7
		x ^= x << 17
		return x
	}
	return func() uint64 { return next() >> (next() % 64) }
}

// words are numbers about the places where a bit, or what a float can hold, changes over.
func words() []uint64 {
	l := []uint64{0, 1, 2, 3, 5, 7, 10, 12, 18, math.MaxUint64 / 3, math.MaxUint64 - 1, math.MaxUint64}
	for _, n := range []int{10, 31, 32, 51, 52, 53, 54, 55, 62, 63} {
		top := uint64(1) << n
		l = append(l, top-1, top, top+1, top+3)
	}
	return append(l, 1<<63+1<<10, 1<<63+1<<10+1, 1<<63+1<<10-1, 1<<63+3<<10, math.MaxUint64-1<<10, math.MaxUint64-1<<10+1, math.MaxUint64-1<<11)
}

// fractions are num and den by turns: all pairs of words, middles between two floats, what is beside these, and pairs without a pattern.
func fractions() [][2]uint64 {
	var l [][2]uint64
	add := func(num, den uint64) {
		if den != 0 {
			l = append(l, [2]uint64{num, den})
		}
	}
	for _, num := range words() {
		for _, den := range words() {
			add(num, den)
		}
	}
	next := scatter()
	for range 2000 {
		middle := 1<<53 | next()%(1<<53) | 1 // 54 bits, the last one 1
		for _, times := range []uint64{1, 3, 5, 1023} {
			for _, shift := range []uint64{0, 1, 20, 53, 54} {
				add(middle*times-1, times<<shift)
				add(middle*times, times<<shift)
				add(middle*times+1, times<<shift)
			}
		}
		add(next(), next())
		n := next()
		add(n, n+1)
		add(n+1, n)
	}
	return l
}

func numbers() []float64 {
	l := []float64{0, 5e-324, 1e-323, 0x1p-1022, 0x1p-1022 - 5e-324, 0x1p-1022 + 5e-324, 0x1p-65, 0x1p-64, 0x1p-63, 0.1, 0.05, 0.5, 1.0 / 3, 1, 1.5, 2, 2.9, 3, 7.2, 10, 0x1p52, 0x1p52 - 0.5, 0x1p52 + 1, 0x1p53, 0x1p62, 0x1p63, 0x1p64, 0x1p65, 0x1p127, 0x1p128, 1e300, math.MaxFloat64}
	for _, f := range l {
		l = append(l, math.Nextafter(f, 0), math.Nextafter(f, math.MaxFloat64))
	}
	for _, f := range l {
		l = append(l, -f)
	}
	return append(l, math.Copysign(0, -1))
}

// floats are numbers, and others without a pattern: of any bits, and about what an int is.
func floats() []float64 {
	l := numbers()
	next := scatter()
	for range 3000 {
		f := math.Float64frombits(next() | next()<<40)
		if !math.IsNaN(f) && !math.IsInf(f, 0) {
			l = append(l, f)
		}
		l = append(l, float64(int64(next()<<1))/float64(1+next()%1000))
	}
	return l
}

func noNumbers() []float64 {
	return []float64{math.NaN(), -math.NaN(), math.Float64frombits(0x7ff0000000000001), math.Float64frombits(0xffffffffffffffff), math.Inf(1), math.Inf(-1)}
}

func ints() []int {
	l := []int{0, 1, 2, 3, 5, 7, 1<<31 - 1, 1 << 32, 1<<53 - 1, 1 << 53, 1<<53 + 1, 1 << 62, 1<<63 - 1025, 1<<63 - 1024, 1<<63 - 1023, 1<<63 - 512, math.MaxInt - 1, math.MaxInt}
	for _, n := range l {
		l = append(l, -1-n)
	}
	return l
}

func fraction(num, den uint64) *big.Rat {
	return new(big.Rat).SetFrac(new(big.Int).SetUint64(num), new(big.Int).SetUint64(den))
}

func exact(f float64) *big.Rat { return new(big.Rat).SetFloat64(f) }

// same holds bits against bits: +0 is not -0.
func same(a, b float64) bool { return math.Float64bits(a) == math.Float64bits(b) }

func near(t *testing.T, num, den uint64) float64 {
	t.Helper()
	f, e := Near(num, den)
	if e != api.OK {
		t.Fatalf("Near(%d, %d): error %d", num, den, e)
	}
	return f
}

// P2.1
func TestNearIsTheNearestFloat(t *testing.T) {
	for _, x := range fractions() {
		want, _ := fraction(x[0], x[1]).Float64()
		if got := near(t, x[0], x[1]); !same(got, want) {
			t.Fatalf("Near(%d, %d): %x, want %x", x[0], x[1], math.Float64bits(got), math.Float64bits(want))
		}
	}
}

// P2.1
func TestNearExamples(t *testing.T) {
	for _, x := range []struct {
		num, den uint64
		want     float64
	}{
		{1, 3, math.Float64frombits(0x3fd5555555555555)}, {0, 7, 0}, {0, math.MaxUint64, 0}, {math.MaxUint64, 1, 0x1p64}, {1, math.MaxUint64, 0x1p-64}, {1<<53 + 1, 1, 0x1p53}, {1<<53 + 3, 1, 0x1p53 + 4}, {1, 20, 0.05}, {math.MaxUint64, math.MaxUint64, 1},
	} {
		if got := near(t, x.num, x.den); !same(got, x.want) {
			t.Errorf("Near(%d, %d): %v, want %v", x.num, x.den, got, x.want)
		}
	}
}

// P2.1, P2.2, P2.3: den 0 is told ahead of all else, and beside it stand zeros.
func TestDenZero(t *testing.T) {
	for _, num := range words() {
		if f, e := Near(num, 0); !same(f, 0) || e != api.ErrRatioZero {
			t.Errorf("Near(%d, 0): %v, %d", num, f, e)
		}
		if s, e := Lowest(num, 0); s != (api.Slope{}) || e != api.ErrRatioZero {
			t.Errorf("Lowest(%d, 0): %v, %d", num, s, e)
		}
		for _, f := range append(numbers(), noNumbers()...) {
			if n, e := Cmp(f, num, 0); n != 0 || e != api.ErrRatioZero {
				t.Errorf("Cmp(%v, %d, 0): %d, %d", f, num, n, e)
			}
		}
	}
}

// P2.2
func TestLowestIsTheSameFractionInLowestTerms(t *testing.T) {
	for _, x := range fractions() {
		got, e := Lowest(x[0], x[1])
		want := fraction(x[0], x[1]) // the library keeps these in lowest terms, and 0 as 0 by 1
		if e != api.OK || got.Num != want.Num().Uint64() || got.Den != want.Denom().Uint64() {
			t.Fatalf("Lowest(%d, %d): %v, %d, want %v", x[0], x[1], got, e, want)
		}
	}
}

// P2.2
func TestLowestExamples(t *testing.T) {
	for _, x := range []struct {
		num, den uint64
		want     api.Slope
	}{
		{12, 18, api.Slope{Num: 2, Den: 3}}, {0, 5, api.Slope{Num: 0, Den: 1}}, {0, math.MaxUint64, api.Slope{Num: 0, Den: 1}}, {math.MaxUint64, math.MaxUint64, api.Slope{Num: 1, Den: 1}}, {7, 1, api.Slope{Num: 7, Den: 1}}, {1 << 63, 1 << 62, api.Slope{Num: 2, Den: 1}},
	} {
		if got, e := Lowest(x.num, x.den); got != x.want || e != api.OK {
			t.Errorf("Lowest(%d, %d): %v, %d, want %v", x.num, x.den, got, e, x.want)
		}
	}
}

func checkCmp(t *testing.T, f float64, num, den uint64, want int) {
	t.Helper()
	if got, e := Cmp(f, num, den); got != want || e != api.OK {
		t.Fatalf("Cmp(%v, %d, %d): %d, %d, want %d", f, num, den, got, e, want)
	}
}

// P2.3: the floats about a fraction are the hardest to tell from it.
func TestCmpBesideAFraction(t *testing.T) {
	for _, x := range fractions() {
		r := fraction(x[0], x[1])
		f, _ := r.Float64()
		for _, g := range []float64{f, math.Nextafter(f, math.Inf(-1)), math.Nextafter(f, math.Inf(1)), -f, f / 2, f * 2} {
			checkCmp(t, g, x[0], x[1], exact(g).Cmp(r))
		}
	}
}

// P2.3
func TestCmpFarAndWide(t *testing.T) {
	for _, f := range numbers() {
		for _, num := range words() {
			for _, den := range []uint64{1, 2, 3, 10, 1<<53 + 1, 1 << 63, math.MaxUint64} {
				checkCmp(t, f, num, den, exact(f).Cmp(fraction(num, den)))
			}
		}
	}
	for i, f := range floats() {
		x := words()
		num, den := x[i%len(x)], x[i/2%len(x)]|1
		checkCmp(t, f, num, den, exact(f).Cmp(fraction(num, den)))
	}
}

// P2.3: a subnormal is below every fraction but 0, so that Cmp alone would not show it taken apart wrongly.
func TestApartIsTheFloat(t *testing.T) {
	for _, f := range floats() {
		if f <= 0 {
			continue
		}
		whole, exp := apart(f)
		if got := math.Ldexp(float64(whole), exp); whole >= 1<<53 || !same(got, f) {
			t.Fatalf("apart(%v): %d, %d", f, whole, exp)
		}
	}
}

// P2.3
func TestCmpExamples(t *testing.T) {
	checkCmp(t, 0.1, 1, 10, 1)
	checkCmp(t, 0.5, 1, 2, 0)
	checkCmp(t, math.Copysign(0, -1), 0, 1, 0)
	checkCmp(t, math.Copysign(0, -1), 1, math.MaxUint64, -1)
	checkCmp(t, -1, 0, 9, -1)
	checkCmp(t, 5e-324, 0, 1, 1)
	checkCmp(t, -5e-324, 0, 1, -1)
	checkCmp(t, 0x1p64, math.MaxUint64, 1, 1)
	checkCmp(t, 0x1p63, 1<<63, 1, 0)
}

// P2.3
func TestCmpOfNoNumber(t *testing.T) {
	for _, f := range noNumbers() {
		for _, num := range words() {
			if n, e := Cmp(f, num, 3); n != 0 || e != api.ErrRatioNaN {
				t.Errorf("Cmp(%v, %d, 3): %d, %d", f, num, n, e)
			}
		}
	}
}

// clamped is what P2.4 says, word by word, in real numbers.
func clamped(f float64, lo, hi int) int {
	if hi < lo || math.IsNaN(f) {
		return lo
	}
	if math.IsInf(f, 0) {
		if f < 0 {
			return lo
		}
		return hi
	}
	r := exact(f)
	if r.Cmp(new(big.Rat).SetInt64(int64(lo))) < 0 {
		return lo
	}
	if r.Cmp(new(big.Rat).SetInt64(int64(hi))) > 0 {
		return hi
	}
	return int(new(big.Int).Div(r.Num(), r.Denom()).Int64()) // rounds down, as the denominator is above 0
}

func checkClamp(t *testing.T, f float64, lo, hi, want int) {
	t.Helper()
	if got := Clamp(f, lo, hi); got != want {
		t.Fatalf("Clamp(%v, %d, %d): %d, want %d", f, lo, hi, got, want)
	}
}

// P2.4
func TestClampBesideTheEnds(t *testing.T) {
	for _, lo := range ints() {
		for _, hi := range ints() {
			for _, end := range []float64{float64(lo), float64(hi)} {
				for _, f := range []float64{end, math.Nextafter(end, math.Inf(-1)), math.Nextafter(end, math.Inf(1)), end - 0.5, end + 0.5} {
					checkClamp(t, f, lo, hi, clamped(f, lo, hi))
				}
			}
			for _, f := range noNumbers() {
				checkClamp(t, f, lo, hi, clamped(f, lo, hi))
			}
		}
	}
}

// P2.4
func TestClampFarAndWide(t *testing.T) {
	ends := ints()
	for i, f := range floats() {
		checkClamp(t, f, math.MinInt, math.MaxInt, clamped(f, math.MinInt, math.MaxInt))
		lo, hi := ends[i%len(ends)], ends[i/3%len(ends)]
		checkClamp(t, f, lo, hi, clamped(f, lo, hi))
	}
}

// P2.4
func TestClampExamples(t *testing.T) {
	checkClamp(t, 2.9, 0, 5, 2)
	checkClamp(t, -0.5, 0, 5, 0)
	checkClamp(t, -0.5, -3, 5, -1)
	checkClamp(t, 7.2, 0, 5, 5)
	checkClamp(t, 3, 5, 4, 5)
	checkClamp(t, math.NaN(), 1, 5, 1)
	checkClamp(t, math.NaN(), 5, 1, 5)
	checkClamp(t, math.Inf(1), 0, math.MaxInt, math.MaxInt)
	checkClamp(t, math.Inf(1), 5, 4, 5)
	checkClamp(t, math.Inf(-1), math.MinInt, 0, math.MinInt)
	checkClamp(t, 0x1p63, 0, math.MaxInt, math.MaxInt)
	checkClamp(t, -0x1p63, math.MinInt, 0, math.MinInt)
	checkClamp(t, 0x1p53, 1<<53+1, 1<<60, 1<<53+1)
	checkClamp(t, 0x1p53+2, 0, 1<<53+1, 1<<53+1)
	checkClamp(t, math.Copysign(0, -1), -1, 1, 0)
}

// steps is Along with each step rounded by itself; for floats that are far from infinite and from subnormal ones.
func steps(slope float64, far uint64, base float64) float64 {
	float := func() *big.Float { return new(big.Float).SetPrec(53).SetMode(big.ToNearestEven) }
	way := float().Mul(float().SetFloat64(slope), float().SetUint64(far))
	f, _ := float().Add(way, float().SetFloat64(base)).Float64()
	return f
}

// P2.5
func TestAlongRoundsEachStep(t *testing.T) {
	apart := 0 // how often rounding once, not twice, would be seen
	next := scatter()
	for range 20000 {
		slope, e := Near(next(), 1+next()>>1)
		if e != api.OK {
			t.Fatal(e)
		}
		far, base := next(), float64(int64(next()))/float64(1+next()%64)
		for _, slope := range []float64{slope, -slope} {
			got, want := Along(slope, far, base), steps(slope, far, base)
			if !same(got, want) {
				t.Fatalf("Along(%v, %d, %v): %v, want %v", slope, far, base, got, want)
			}
			if got != math.FMA(slope, float64(far), base) {
				apart++
			}
		}
	}
	if apart < 100 {
		t.Errorf("only %d cases tell two roundings from one", apart)
	}
}

// P2.5
func TestAlongTakesFarAsTheNearestFloat(t *testing.T) {
	for _, far := range words() {
		if got, want := Along(1, far, 0), near(t, far, 1); !same(got, want) {
			t.Errorf("Along(1, %d, 0): %v, want %v", far, got, want)
		}
	}
}

// P2.5
func TestAlongExamples(t *testing.T) {
	below := math.Copysign(0, -1)
	inf, nan := math.Inf(1), math.NaN()
	for _, x := range []struct {
		slope float64
		far   uint64
		base  float64
		want  float64
	}{
		{0.5, 1<<63 + 1, 1, 0x1p62}, {0.05, 25, 1, 2.25}, {0, math.MaxUint64, -3, -3},
		{math.MaxFloat64, 2, 0, inf}, {math.MaxFloat64, 1, math.MaxFloat64, inf}, {-math.MaxFloat64, 2, 1, -inf}, {inf, 1, 0, inf}, {1, 1, -inf, -inf}, {math.MaxFloat64, 2, -math.MaxFloat64, inf},
		{inf, 0, 1, nan}, {inf, 1, -inf, nan}, {nan, 1, 1, nan}, {1, 1, nan, nan}, {nan, 0, 0, nan}, {math.MaxFloat64, 2, -inf, nan},
		{0, 5, 0, 0}, {0, 0, below, 0}, {below, 5, below, below}, {below, 5, 0, 0}, {-1, 0, below, below}, {1, 5, -5, 0},
	} {
		got := Along(x.slope, x.far, x.base)
		if math.IsNaN(x.want) && math.IsNaN(got) {
			continue
		}
		if !same(got, x.want) {
			t.Errorf("Along(%v, %d, %v): %v, want %v", x.slope, x.far, x.base, got, x.want)
		}
	}
}

// P2.6
func TestNearRisesWithNumAndFallsWithDen(t *testing.T) {
	for _, x := range fractions() {
		num, den := x[0], x[1]
		f := near(t, num, den)
		if num < math.MaxUint64 && near(t, num+1, den) < f {
			t.Fatalf("Near(%d + 1, %d) falls", num, den)
		}
		if den < math.MaxUint64 && near(t, num, den+1) > f {
			t.Fatalf("Near(%d, %d + 1) rises", num, den)
		}
	}
}

// P2.6
func TestNearInLowestTermsIsTheSame(t *testing.T) {
	for _, x := range fractions() {
		s, e := Lowest(x[0], x[1])
		if e != api.OK || !same(near(t, s.Num, s.Den), near(t, x[0], x[1])) {
			t.Fatalf("Near(%d, %d) and Near(%d, %d)", s.Num, s.Den, x[0], x[1])
		}
	}
}

// P2.7
func TestNoFloatIsNearer(t *testing.T) {
	off := func(f float64, r *big.Rat) *big.Rat {
		d := new(big.Rat).Sub(exact(f), r)
		return d.Abs(d)
	}
	for _, x := range fractions() {
		r, f := fraction(x[0], x[1]), near(t, x[0], x[1])
		least := off(f, r)
		for _, g := range []float64{math.Nextafter(f, math.Inf(-1)), math.Nextafter(f, math.Inf(1))} {
			c := least.Cmp(off(g, r))
			if c > 0 || c == 0 && math.Float64bits(f)%2 == 1 {
				t.Fatalf("Near(%d, %d): %v, but %v is as near", x[0], x[1], f, g)
			}
		}
	}
}

// P2.8
func TestAlongDoesNotFallWhereFarRises(t *testing.T) {
	next := scatter()
	slopes := []float64{0, 5e-324, 0x1p-64, 0.05, 1.0 / 3, 1, 2, 1e300, math.MaxFloat64}
	bases := []float64{0, 1, -1, 0.5, -0x1p52, 0x1p32, 1e300, -1e300, math.MaxFloat64, -math.MaxFloat64}
	for range 200 {
		low, high := next(), next()
		if low > high {
			low, high = high, low
		}
		for _, pair := range [][2]uint64{{low, high}, {low, low + 1}, {0, low}, {high, math.MaxUint64}} {
			for _, slope := range append(slopes, near(t, next(), 1+next()>>1)) {
				for _, base := range bases {
					if a, b := Along(slope, pair[0], base), Along(slope, pair[1], base); pair[0] <= pair[1] && !(a <= b) {
						t.Fatalf("Along(%v, %d and %d, %v): %v and %v", slope, pair[0], pair[1], base, a, b)
					}
				}
			}
		}
	}
}

// P2.8
func TestClampDoesNotFallWhereFRises(t *testing.T) {
	ends := ints()
	for i, f := range append(floats(), math.Inf(-1)) {
		for _, g := range []float64{math.Nextafter(f, math.Inf(1)), f + 0.5, f + 1, math.Inf(1)} {
			lo, hi := ends[i%len(ends)], ends[i/5%len(ends)]
			if Clamp(f, lo, hi) > Clamp(g, lo, hi) || Clamp(f, math.MinInt, math.MaxInt) > Clamp(g, math.MinInt, math.MaxInt) {
				t.Fatalf("Clamp of %v is above that of %v, from %d to %d", f, g, lo, hi)
			}
		}
	}
}
