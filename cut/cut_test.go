package cut

import (
	"math"
	"math/big"
	"slices"
	"testing"

	"incline/api"
	"incline/hull"
	"incline/line"
)

const top = math.MaxUint64

var (
	allEps   = []int{2, 3, 4, 8, 17, 63, 64}
	wrongEps = []int{math.MinInt, math.MinInt + 2, -1 << 32, 2 - 1<<32, -64, -2, -1, 0, 1, 65, 66, 128, 258, 1<<32 + 2, math.MaxInt}
)

// scatter gives words without a pattern, of all lengths, always the same ones.
func scatter() func() uint64 {
	x := uint64(0x9e3779b97f4a7c15)
	next := func() uint64 {
		x ^= x << 13
		x ^= x >> 7
		x ^= x << 17
		return x
	}
	return func() uint64 { return next() >> (next() % 64) }
}

// streams are rising keys of many kinds, n at most (fewer where the next one would be beyond).
func streams(n int) [][]uint64 {
	next := scatter()
	gaps := []func(i int) uint64{
		func(i int) uint64 { return 1 },
		func(i int) uint64 { return 10 },
		func(i int) uint64 { return top / uint64(n) },
		func(i int) uint64 { return 1 + next()%3 },
		func(i int) uint64 { return 1 + next()%1000 },
		func(i int) uint64 { return 1 + next()%(top/uint64(n)) },
		func(i int) uint64 { return uint64(i + 1) },
		func(i int) uint64 { return uint64(2*n - i) },
		func(i int) uint64 { return uint64(1 + i%7*i%11) },
		func(i int) uint64 { return 1 << 40 / uint64(i+3) },
		func(i int) uint64 { return 1 << min(i/3, 62) },
		func(i int) uint64 { return 1<<30*uint64(i%13/12) + 1 },
		func(i int) uint64 { return 1<<57>>min(i, 57) + 1 },
		func(i int) uint64 { return 1 + 1000*uint64(1-i/15%2) },
		func(i int) uint64 { return 1 + 1<<40*uint64(i%128/127) },
		func(i int) uint64 { return 1 + 1<<40*uint64(i%129/128) },
	}
	var all [][]uint64
	for g, gap := range gaps {
		k := []uint64{0, 7, 1 << 33}[g%3]
		l := []uint64{k}
		for i := 1; i < n; i++ {
			d := gap(i)
			if d > top-k {
				l = append(l, top)
				break
			}
			k += d
			l = append(l, k)
		}
		all = append(all, l)
	}
	return all
}

// numbers are those from 0 to n - 1, as keys.
func numbers(n int) []uint64 {
	l := make([]uint64, n)
	for i := range l {
		l[i] = uint64(i)
	}
	return l
}

// blocks are keys side by side, in blocks of that many each, far from one another: but the last block, which has so many.
func blocks(count, each, last int) []uint64 {
	var l []uint64
	for b := range count {
		n := each
		if b == count-1 {
			n = last
		}
		for i := range n {
			l = append(l, uint64(b)<<40+uint64(i))
		}
	}
	return l
}

// must are the Ends of keys that rise, with an eps that may be.
func must(t *testing.T, keys []uint64, eps int) []int {
	t.Helper()
	l, err := Ends(keys, eps)
	if err != api.OK {
		t.Fatalf("Ends of %d keys, eps %d: %v", len(keys), eps, err)
	}
	return l
}

func want(t *testing.T, keys []uint64, eps int, ends ...int) {
	t.Helper()
	if l := must(t, keys, eps); !slices.Equal(l, ends) {
		t.Errorf("eps %d: %v, not %v, of %v", eps, l, ends, keys)
	}
}

// each asks of all streams and all eps.
func each(t *testing.T, n int, ask func(keys []uint64, eps int, ends []int)) {
	t.Helper()
	for _, keys := range streams(n) {
		for _, eps := range allEps {
			ask(keys, eps, must(t, keys, eps))
		}
	}
}

// eachStretch hands over where each stretch begins and ends.
func eachStretch(ends []int, ask func(from, to int)) {
	from := 0
	for _, to := range ends {
		ask(from, to)
		from = to
	}
}

// plainFit has the slopes of all lines that fit over keys, by the words of chapter 4: from all pairs.
type plainFit struct {
	keys        []uint64
	e           int
	least, most *big.Rat
}

func (f *plainFit) slope(up, i, j int) *big.Rat {
	return new(big.Rat).SetFrac(big.NewInt(int64(up)), new(big.Int).SetUint64(f.keys[j]-f.keys[i]))
}

// add tells whether some line fits over the keys with this one; it stays among them, whether or not.
func (f *plainFit) add(key uint64) bool {
	j := len(f.keys)
	f.keys = append(f.keys, key)
	for i := range j {
		if s := f.slope(j-i-2*f.e, i, j); s.Cmp(f.least) > 0 {
			f.least = s
		}
		if s := f.slope(j-i+2*f.e, i, j); f.most == nil || s.Cmp(f.most) < 0 {
			f.most = s
		}
	}
	return f.most == nil || f.least.Cmp(f.most) <= 0
}

func plainNew(eps int) *plainFit { return &plainFit{e: eps - 1, least: new(big.Rat)} }

// plainFits tells whether some line fits over keys.
func plainFits(keys []uint64, eps int) bool {
	f := plainNew(eps)
	for _, k := range keys {
		if !f.add(k) {
			return false
		}
	}
	return true
}

// plainEnds are Ends by the promise's own words, of keys that rise, with an eps that may be.
func plainEnds(keys []uint64, eps int) []int {
	var ends []int
	f := plainNew(eps)
	for i, k := range keys {
		if !f.add(k) {
			ends = append(ends, i)
			f = plainNew(eps)
			f.add(k)
		}
	}
	if len(keys) > 0 {
		ends = append(ends, len(keys))
	}
	return ends
}

// P6.1

func TestExamples(t *testing.T) {
	want(t, nil, 2)
	want(t, []uint64{7}, 2, 1)
	want(t, []uint64{10, 20, 30, 40, 50}, 2, 5)
	want(t, []uint64{0, 1, 2, 3, 100, 101, 102}, 2, 4, 7)
	want(t, numbers(101)[1:], 2, 100)
}

func TestEndsAreThePlainOnes(t *testing.T) {
	each(t, 150, func(keys []uint64, eps int, ends []int) {
		if p := plainEnds(keys, eps); !slices.Equal(ends, p) {
			t.Errorf("eps %d: %v, not %v, of %v", eps, ends, p, keys)
		}
	})
}

// All keys that a small choice of gaps makes: so ends are met at all lengths, by a key that is just too far or too near.
func TestEndsOfAllSmallGaps(t *testing.T) {
	gaps := []uint64{1, 2, 5, 40}
	for code := range 1 << 14 {
		k := uint64(0)
		keys := []uint64{k}
		for i := range 7 {
			k += gaps[code>>(2*i)&3]
			keys = append(keys, k)
		}
		if l, p := must(t, keys, 2), plainEnds(keys, 2); !slices.Equal(l, p) {
			t.Fatalf("%v, not %v, of %v", l, p, keys)
		}
	}
}

func TestFewKeys(t *testing.T) {
	for _, eps := range allEps {
		want(t, nil, eps)
		want(t, []uint64{}, eps)
		for _, k := range []uint64{0, 1, 1 << 63, top - 1, top} {
			want(t, []uint64{k}, eps, 1)
		}
		for _, l := range [][]uint64{{0, 1}, {0, top}, {top - 1, top}, {1<<63 - 1, 1 << 63}} {
			want(t, l, eps, 2)
		}
	}
}

func TestOneLineIsNear(t *testing.T) {
	for _, eps := range allEps {
		for _, gap := range []uint64{1, 2, 10, top / 1000} {
			l := numbers(1001)
			for i := range l {
				l[i] *= gap
			}
			want(t, l, eps, 1001)
			for i := range l {
				l[i] += top - l[1000]
				if i == 1000 && l[i] != top {
					t.Fatal("the last key is not the topmost")
				}
			}
			want(t, l, eps, 1001)
		}
	}
}

func TestManyStretches(t *testing.T) {
	for _, eps := range []int{2, 3, 64} {
		var ends []int
		for i := range 50 {
			ends = append(ends, 2*eps*(i+1))
		}
		want(t, blocks(50, 2*eps, 2*eps), eps, ends...)
	}
}

func TestTheEdgesOfAllKeys(t *testing.T) {
	l := []uint64{0, 1, 2, 3, top - 3, top - 2, top - 1, top}
	want(t, l, 2, 4, 8)
	want(t, l, 64, 8)
	for _, eps := range allEps {
		low, high := numbers(2*eps), numbers(2*eps)
		for i := range high {
			high[i] += top - uint64(2*eps-1)
		}
		want(t, append(low, high...), eps, 2*eps, 4*eps)
	}
}

func TestTheLastKeyEnds(t *testing.T) {
	for _, eps := range allEps {
		l := numbers(2 * eps)
		want(t, append(slices.Clone(l), uint64(2*eps)), eps, 2*eps+1)
		want(t, append(slices.Clone(l), top), eps, 2*eps, 2*eps+1)
		want(t, append(slices.Clone(l), top-1, top), eps, 2*eps, 2*eps+2)
	}
}

// With eps 2 the keys 0, 1, 2, 3 want a slope of at least 1/3; a key that is far behind them one of at most 3 over its way from 3, or 4 over that from 2, and so on.
func TestTheKeyThatIsJustTooFar(t *testing.T) {
	want(t, []uint64{0, 1, 2, 3, 12}, 2, 5)
	want(t, []uint64{0, 1, 2, 3, 13}, 2, 4, 5)
}

func TestManyKeys(t *testing.T) {
	next := scatter()
	k := uint64(0)
	l := []uint64{k}
	for range 1 << 17 {
		k += 1 + next()%(1<<40)
		l = append(l, k)
	}
	for _, eps := range []int{2, 64} {
		var ends []int
		fit, _ := hull.New(eps)
		for i, k := range l {
			if ok, _ := fit.Add(k); !ok {
				ends = append(ends, i)
				fit, _ = hull.New(eps)
				fit.Add(k)
			}
		}
		ends = append(ends, len(l))
		if !slices.Equal(must(t, l, eps), ends) {
			t.Errorf("eps %d: not what the fits say of %d keys", eps, len(l))
		}
	}
}

func refused(t *testing.T, keys []uint64, eps int, err api.Errno) {
	t.Helper()
	if l, e := Ends(keys, eps); len(l) != 0 || e != err {
		t.Errorf("eps %d, %d keys: %v %v, not %v", eps, len(keys), l, e, err)
	}
}

func TestWrongEps(t *testing.T) {
	for _, eps := range wrongEps {
		refused(t, nil, eps, api.ErrArg)
		refused(t, []uint64{7}, eps, api.ErrArg)
		refused(t, []uint64{0, 1, 2, 3, 100}, eps, api.ErrArg)
	}
	for eps := api.MinEps; eps <= api.MaxEps; eps++ {
		want(t, []uint64{7, 9}, eps, 2)
	}
}

func TestKeysThatDoNotRise(t *testing.T) {
	for _, eps := range allEps {
		for _, l := range [][]uint64{{5, 5}, {5, 4}, {top, 0}, {0, 0}, {top, top}, {1, 2, 2}, {1, 3, 2}, {0, 1, 2, 3, 100, 50}, {0, 1, 2, 3, 100, 100}, {0, 1, 2, 3, 100, 3}, {0, 1, 2, 3, 2}} {
			refused(t, l, eps, api.ErrCutOrder)
		}
	}
}

func TestKeysThatDoNotRiseFarBehind(t *testing.T) {
	for _, eps := range []int{2, 64} {
		good := blocks(40, 2*eps, 2*eps)
		for i := 1; i < len(good); i++ {
			for _, k := range []uint64{good[i-1], good[i-1] - 1, 0} {
				if k > good[i-1] {
					continue
				}
				l := slices.Clone(good)
				l[i] = k
				refused(t, l, eps, api.ErrCutOrder)
			}
		}
		refused(t, append(numbers(10000), 9999), eps, api.ErrCutOrder)
	}
}

func TestWrongEpsAheadOfWrongKeys(t *testing.T) {
	for _, eps := range wrongEps {
		refused(t, []uint64{5, 5}, eps, api.ErrArg)
		refused(t, append(numbers(100), 3), eps, api.ErrArg)
	}
}

// What is handed in stays as it is, what is behind its length is not looked at, and what comes out is new.
func TestMemory(t *testing.T) {
	room := []uint64{0, 1, 2, 3, 100, 101, 102, 5, 5, 0}
	kept := slices.Clone(room)
	for n := range 8 {
		l, err := Ends(room[:n], 2)
		if p := plainEnds(kept[:n], 2); err != api.OK || !slices.Equal(l, p) {
			t.Errorf("%v %v, not %v, of %v", l, err, p, kept[:n])
		}
		for i := range l[:cap(l)] {
			l[:cap(l)][i] = -1
		}
		want(t, room[:n], 2, plainEnds(kept[:n], 2)...)
	}
	refused(t, room[:9], 2, api.ErrCutOrder)
	refused(t, room[:9], 1, api.ErrArg)
	if !slices.Equal(room, kept) {
		t.Errorf("the keys are %v, not %v", room, kept)
	}
}

// P6.2

func TestFewStretches(t *testing.T) {
	each(t, 700, func(keys []uint64, eps int, ends []int) {
		if most := 1 + (len(keys)-1)/(2*eps-1); len(ends) > most {
			t.Errorf("eps %d: %d stretches of %d keys, more than %d", eps, len(ends), len(keys), most)
		}
		eachStretch(ends, func(from, to int) {
			if to != len(keys) && to-from < 2*eps-1 {
				t.Errorf("eps %d: a stretch of %d keys from %d on", eps, to-from, from)
			}
		})
	})
}

// A stretch of just 2 * eps - 1 keys is the last one, or the only one: some line fits over any 2 * eps keys too, so a stretch that is ended has at least these.
func TestShortStretches(t *testing.T) {
	for _, eps := range allEps {
		n := 2*eps - 1
		for _, keys := range append(streams(n), streams(n+1)...) {
			want(t, keys, eps, len(keys))
		}
		want(t, blocks(1, 0, n), eps, n)
		want(t, blocks(2, n+1, n), eps, n+1, 2*n+1)
		want(t, blocks(3, n+1, n-1), eps, n+1, 2*n+2, 3*n+1)
		want(t, blocks(2, n+1, 1), eps, n+1, n+2)
		want(t, append(numbers(n), top), eps, n+1)
	}
}

// P6.3

func TestAsLongAsCanBe(t *testing.T) {
	each(t, 150, func(keys []uint64, eps int, ends []int) {
		eachStretch(ends, func(from, to int) {
			l, err := line.Of(keys[from:to], eps)
			if err != api.OK || !line.Fits(l, keys[from:to], eps) {
				t.Errorf("eps %d: no line from %d to %d: %v", eps, from, to, err)
			}
			if !plainFits(keys[from:to], eps) {
				t.Errorf("eps %d: nothing fits from %d to %d", eps, from, to)
			}
			if to < len(keys) && plainFits(keys[from:to+1], eps) {
				t.Errorf("eps %d: a line fits from %d to beyond %d", eps, from, to)
			}
		})
	})
}

// P6.4

func TestOfEachBeginning(t *testing.T) {
	each(t, 150, func(keys []uint64, eps int, ends []int) {
		for n := 1; n <= len(keys); n++ {
			var within []int
			for _, end := range ends {
				if end < n {
					within = append(within, end)
				}
			}
			within = append(within, n)
			if l := must(t, keys[:n], eps); !slices.Equal(l, within) {
				t.Errorf("eps %d: %v, not %v, of the first %d", eps, l, within, n)
			}
		}
	})
}

func TestFromEachEndOn(t *testing.T) {
	each(t, 400, func(keys []uint64, eps int, ends []int) {
		for i, end := range ends {
			var further []int
			for _, e := range ends[i+1:] {
				further = append(further, e-end)
			}
			if l := must(t, keys[end:], eps); !slices.Equal(l, further) {
				t.Errorf("eps %d: %v, not %v, from %d on", eps, l, further, end)
			}
		}
	})
}

// P6.5

func TestMoved(t *testing.T) {
	each(t, 200, func(keys []uint64, eps int, ends []int) {
		first, last := keys[0], keys[len(keys)-1]
		for _, by := range []uint64{-first, 1, 1 << 20, (top - last) / 2, top - last} {
			if by != -first && by > top-last {
				continue
			}
			moved := slices.Clone(keys)
			for i := range moved {
				moved[i] += by
			}
			if l := must(t, moved, eps); !slices.Equal(l, ends) {
				t.Errorf("eps %d: %v, not %v, moved by %d", eps, l, ends, by)
			}
		}
	})
}
