package wide

import (
	"math"
	"math/big"
	"testing"

	"incline/api"
)

// smalls, words and ints are numbers about the places where a bit, a sign or a word changes over; ints has all pairs of halves.
func smalls() []int64 {
	l := []int64{0, 1, 2, 3, 5, 7, 10, 1<<31 - 1, 1 << 31, 1 << 32, 1<<52 + 1, 1 << 53, 1<<62 - 1, 1 << 62, math.MaxInt64 - 1, math.MaxInt64}
	for _, n := range l {
		l = append(l, -1-n)
	}
	return l
}

func words() []uint64 {
	var l []uint64
	for _, n := range smalls() {
		l = append(l, uint64(n))
	}
	return append(l, math.MaxUint64/3, math.MaxUint64/3*2, 0x0123456789abcdef, 0xfedcba9876543210)
}

func ints() []api.Int {
	var l []api.Int
	for _, hi := range []int64{math.MinInt64, math.MinInt64 + 1, -1 << 62, -3, -2, -1, 0, 1, 2, 1 << 62, math.MaxInt64 - 1, math.MaxInt64} {
		for _, lo := range []uint64{0, 1, 2, 7, 1<<63 - 1, 1 << 63, 1<<63 + 1, math.MaxUint64 - 1, math.MaxUint64} {
			l = append(l, api.Int{Hi: hi, Lo: lo})
		}
	}
	return l
}

// scattered are Ints without a pattern, always the same ones.
func scattered(n int) []api.Int {
	x := uint64(0x9e3779b97f4a7c15)
	next := func() uint64 {
		x ^= x << 13
		x ^= x >> 7
		x ^= x << 17
		return x
	}
	var l []api.Int
	for range n {
		hi, lo, shift := next(), next(), next()%64
		l = append(l, api.Int{Hi: int64(hi) >> shift, Lo: lo >> (next() % 64)})
	}
	return l
}

// whole is an Int as the library's own number.
func whole(a api.Int) *big.Int {
	n := new(big.Int).Lsh(big.NewInt(a.Hi), 64)
	return n.Add(n, new(big.Int).SetUint64(a.Lo))
}

func within(n *big.Int) bool {
	top := new(big.Int).Lsh(big.NewInt(1), 127)
	return n.Cmp(top) < 0 && n.Cmp(new(big.Int).Neg(top)) >= 0
}

// modulo is the one Int that is a multiple of 2^128 away from n.
func modulo(n *big.Int) api.Int {
	all := new(big.Int).Lsh(big.NewInt(1), 128)
	m := new(big.Int).Mod(n, all)
	word := new(big.Int).SetUint64(math.MaxUint64)
	return api.Int{Hi: int64(new(big.Int).Rsh(m, 64).Uint64()), Lo: new(big.Int).And(m, word).Uint64()}
}

// P1.1
func TestOfIsTheNumber(t *testing.T) {
	for _, n := range smalls() {
		if got := Of(n); whole(got).Cmp(big.NewInt(n)) != 0 {
			t.Errorf("Of(%d): %v", n, got)
		}
	}
}

// P1.1
func TestTimesIsTheProduct(t *testing.T) {
	for _, a := range smalls() {
		for _, b := range words() {
			want := new(big.Int).Mul(big.NewInt(a), new(big.Int).SetUint64(b))
			if got := Times(a, b); whole(got).Cmp(want) != 0 {
				t.Errorf("Times(%d, %d): %v, want %v", a, b, got, want)
			}
		}
	}
}

// P1.1: scattered factors
func TestTimesOfScatteredNumbers(t *testing.T) {
	for _, n := range scattered(5000) {
		want := new(big.Int).Mul(big.NewInt(n.Hi), new(big.Int).SetUint64(n.Lo))
		if got := Times(n.Hi, n.Lo); whole(got).Cmp(want) != 0 {
			t.Errorf("Times(%d, %d): %v, want %v", n.Hi, n.Lo, got, want)
		}
	}
}

func holdSums(t *testing.T, a, b api.Int) {
	t.Helper()
	x, y := whole(a), whole(b)
	if got, want := Add(a, b), modulo(new(big.Int).Add(x, y)); got != want {
		t.Errorf("Add(%v, %v): %v, want %v", a, b, got, want)
	}
	if got, want := Sub(a, b), modulo(new(big.Int).Sub(x, y)); got != want {
		t.Errorf("Sub(%v, %v): %v, want %v", a, b, got, want)
	}
}

// P1.2
func TestSumsAndDifferencesModulo(t *testing.T) {
	for _, a := range ints() {
		for _, b := range ints() {
			holdSums(t, a, b)
		}
	}
	l := scattered(5000)
	for i, a := range l {
		holdSums(t, a, l[len(l)-1-i])
	}
}

// P1.2
func TestNegModulo(t *testing.T) {
	for _, a := range append(ints(), scattered(1000)...) {
		if got, want := Neg(a), modulo(new(big.Int).Neg(whole(a))); got != want {
			t.Errorf("Neg(%v): %v, want %v", a, got, want)
		}
	}
}

// P1.3
func TestCmpIsThatOfTheNumbers(t *testing.T) {
	for _, l := range [][]api.Int{ints(), scattered(200)} {
		for _, a := range l {
			for _, b := range l {
				if got, want := Cmp(a, b), whole(a).Cmp(whole(b)); got != want {
					t.Errorf("Cmp(%v, %v): %d, want %d", a, b, got, want)
				}
			}
		}
	}
}

func holdDiv(t *testing.T, a api.Int, d uint64) {
	t.Helper()
	q, r, e := Div(a, d)
	by := new(big.Int).SetUint64(d)
	// by is above 0, where the library's DivMod rounds down and has a rest of 0 or more.
	wantQ, wantR := new(big.Int).DivMod(whole(a), by, new(big.Int))
	if e != api.OK || whole(q).Cmp(wantQ) != 0 || new(big.Int).SetUint64(r).Cmp(wantR) != 0 {
		t.Errorf("Div(%v, %d): %v, %d, %d, want %v, %v, OK", a, d, q, r, e, wantQ, wantR)
	}
}

// P1.4
func TestDivRoundsDown(t *testing.T) {
	for _, a := range ints() {
		for _, d := range words() {
			if d != 0 {
				holdDiv(t, a, d)
			}
		}
	}
	l := scattered(5000)
	for i, a := range l {
		if d := l[len(l)-1-i].Lo; d != 0 {
			holdDiv(t, a, d)
		}
	}
}

// P1.4: by 0, and nothing beside the error
func TestDivByZero(t *testing.T) {
	for _, a := range append(ints(), scattered(100)...) {
		if q, r, e := Div(a, 0); q != (api.Int{}) || r != 0 || e != api.ErrWideZero {
			t.Errorf("Div(%v, 0): %v, %d, %d", a, q, r, e)
		}
	}
}

// P1.5
func TestSumsAreARing(t *testing.T) {
	zero := api.Int{}
	l := append(ints(), scattered(40)...)
	for i, a := range l {
		if Add(a, zero) != a || Add(zero, a) != a || Sub(a, zero) != a || Add(a, Neg(a)) != zero || Sub(a, a) != zero || Neg(Neg(a)) != a {
			t.Errorf("0, or %v and back", a)
		}
		for _, b := range l {
			if Add(a, b) != Add(b, a) || Sub(Add(a, b), b) != a || Add(Add(a, b), Neg(b)) != a || Add(Sub(a, b), b) != a || Sub(a, b) != Add(a, Neg(b)) {
				t.Errorf("%v with %v", a, b)
			}
			if c := l[(i*7+3)%len(l)]; Add(Add(a, b), c) != Add(a, Add(b, c)) {
				t.Errorf("%v, %v and %v", a, b, c)
			}
		}
	}
}

// P1.5
func TestTimesGoesOverSums(t *testing.T) {
	for _, b := range words() {
		for _, x := range smalls() {
			if x != math.MinInt64 && Times(-x, b) != Neg(Times(x, b)) {
				t.Errorf("Times(-%d, %d)", x, b)
			}
			for _, y := range smalls() {
				if s := x + y; (s < x) == (y < 0) && Times(s, b) != Add(Times(x, b), Times(y, b)) {
					t.Errorf("Times(%d + %d, %d)", x, y, b)
				}
			}
			for _, c := range words() {
				if s := b + c; s >= b && Times(x, s) != Add(Times(x, b), Times(x, c)) {
					t.Errorf("Times(%d, %d + %d)", x, b, c)
				}
			}
		}
	}
}

// P1.6
func TestCmpIsAnOrder(t *testing.T) {
	l := ints()
	for _, a := range l {
		for _, b := range l {
			way := Cmp(a, b)
			if way != -Cmp(b, a) || (way == 0) != (a == b) {
				t.Errorf("Cmp(%v, %v): %d", a, b, way)
			}
			for _, c := range l {
				if way < 0 && Cmp(b, c) < 0 && Cmp(a, c) >= 0 {
					t.Errorf("%v below %v below %v", a, b, c)
				}
			}
		}
	}
}

// P1.6
func TestOfKeepsTheOrder(t *testing.T) {
	for _, a := range smalls() {
		for _, b := range smalls() {
			want := 0
			if a < b {
				want = -1
			} else if a > b {
				want = 1
			}
			if got := Cmp(Of(a), Of(b)); got != want {
				t.Errorf("Cmp(Of(%d), Of(%d)): %d", a, b, got)
			}
		}
	}
}

// P1.6
func TestAddOfNoLessThanZeroIsNotBelow(t *testing.T) {
	l := append(ints(), scattered(100)...)
	for _, a := range l {
		for _, b := range l {
			if b.Hi >= 0 && within(new(big.Int).Add(whole(a), whole(b))) && Cmp(Add(a, b), a) < 0 {
				t.Errorf("Add(%v, %v) is below", a, b)
			}
		}
	}
}

// P1.7
func TestDivOfOneMore(t *testing.T) {
	for _, a := range append(ints(), scattered(100)...) {
		for _, d := range words() {
			if d == 0 || !within(new(big.Int).Add(whole(a), new(big.Int).SetUint64(d))) {
				continue
			}
			q, r, _ := Div(a, d)
			if q1, r1, e := Div(Add(a, api.Int{Lo: d}), d); e != api.OK || q1 != Add(q, Of(1)) || r1 != r {
				t.Errorf("Div(%v, %d): %v, %d; of one more: %v, %d", a, d, q, r, q1, r1)
			}
		}
	}
}

// P1.7
func TestDivLeadsBackFromTimes(t *testing.T) {
	for _, n := range smalls() {
		for _, d := range words() {
			if d == 0 {
				continue
			}
			if q, r, e := Div(Times(n, d), d); q != Of(n) || r != 0 || e != api.OK {
				t.Errorf("Div(Times(%d, %d), %d): %v, %d, %d", n, d, d, q, r, e)
			}
		}
	}
}

// The chapter's table, but Div
func TestExamples(t *testing.T) {
	for i, x := range []struct{ got, want api.Int }{
		{Of(-1), api.Int{Hi: -1, Lo: math.MaxUint64}},
		{Of(5), api.Int{Lo: 5}},
		{Times(math.MinInt64, math.MaxUint64), api.Int{Hi: math.MinInt64, Lo: 1 << 63}},
		{Times(3, 1<<63), api.Int{Hi: 1, Lo: 1 << 63}},
		{Times(-3, 1<<63), api.Int{Hi: -2, Lo: 1 << 63}},
		{Times(0, 9), api.Int{}},
		{Add(api.Int{Lo: math.MaxUint64}, api.Int{Lo: 1}), api.Int{Hi: 1}},
		{Add(api.Int{Hi: math.MaxInt64, Lo: math.MaxUint64}, api.Int{Lo: 1}), api.Int{Hi: math.MinInt64}},
		{Sub(api.Int{}, api.Int{Lo: 1}), api.Int{Hi: -1, Lo: math.MaxUint64}},
		{Neg(api.Int{Hi: math.MinInt64}), api.Int{Hi: math.MinInt64}},
		{Neg(api.Int{Lo: 1}), api.Int{Hi: -1, Lo: math.MaxUint64}},
		{Neg(api.Int{}), api.Int{}},
	} {
		if x.got != x.want {
			t.Errorf("example %d: %v, want %v", i, x.got, x.want)
		}
	}
	if Cmp(api.Int{Hi: -1}, api.Int{}) != -1 || Cmp(api.Int{Lo: 1 << 63}, api.Int{Lo: 1}) != 1 || Cmp(api.Int{Hi: -1, Lo: 5}, api.Int{Hi: -1, Lo: 5}) != 0 {
		t.Error("Cmp")
	}
}

// The chapter's table, Div
func TestDivExamples(t *testing.T) {
	for _, x := range []struct {
		a api.Int
		d uint64
		q api.Int
		r uint64
		e api.Errno
	}{
		{api.Int{Lo: 7}, 2, api.Int{Lo: 3}, 1, api.OK},
		{Of(-7), 2, Of(-4), 1, api.OK},
		{api.Int{Hi: 1}, 3, api.Int{Lo: math.MaxUint64 / 3}, 1, api.OK},
		{api.Int{Hi: math.MinInt64}, math.MaxUint64, api.Int{Hi: -1, Lo: 1<<63 - 1}, 1<<63 - 1, api.OK},
		{api.Int{Lo: 7}, 0, api.Int{}, 0, api.ErrWideZero},
		{api.Int{Hi: math.MinInt64}, 1, api.Int{Hi: math.MinInt64}, 0, api.OK},
	} {
		if q, r, e := Div(x.a, x.d); q != x.q || r != x.r || e != x.e {
			t.Errorf("Div(%v, %d): %v, %d, %d", x.a, x.d, q, r, e)
		}
	}
}
