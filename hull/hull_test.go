package hull

import (
	"math"
	"math/big"
	"math/bits"
	"slices"
	"testing"

	"incline/api"
)

const top = math.MaxUint64

var (
	flat   = api.Slope{Num: 0, Den: 1}
	steep  = api.Slope{Num: 1, Den: 0} // without a bound
	allEps = []int{2, 3, 4, 5, 8, 17, 32, 63, 64}
)

// scatter gives words without a pattern, of all lengths, always the same ones.
func scatter() func() uint64 {
	x := uint64(0x9e3779b97f4a7c15)
	next := func() uint64 {
		x ^= x << 13
		x ^= x >> 7
		x ^= x << 17
		return x
	}
	return func() uint64 { return next() >> (next() % 64) }
}

// plain keeps all keys, and knows what a Fit must answer by the chapter's own words: from all pairs of keys.
type plain struct {
	e           int
	keys        []uint64
	least, most api.Slope
}

func plainOf(eps int) *plain { return &plain{e: eps - 1, least: flat, most: steep} }

// above holds two fractions against each other; their terms may be any.
func above(a, b api.Slope) bool {
	h1, l1 := bits.Mul64(a.Num, b.Den)
	h2, l2 := bits.Mul64(b.Num, a.Den)
	return h1 > h2 || h1 == h2 && l1 > l2
}

// bounds is what Least and Most would be, if the key was taken.
func (p *plain) bounds(key uint64) (least, most api.Slope) {
	least, most = p.least, p.most
	j := len(p.keys)
	for i, k := range p.keys {
		if up := j - i - 2*p.e; up > 0 {
			if s := (api.Slope{Num: uint64(up), Den: key - k}); above(s, least) {
				least = s
			}
		}
		if s := (api.Slope{Num: uint64(j - i + 2*p.e), Den: key - k}); above(most, s) {
			most = s
		}
	}
	return least, most
}

// takes tells whether some line fits over its keys and this one.
func (p *plain) takes(key uint64) bool {
	least, most := p.bounds(key)
	return !above(least, most)
}

func (p *plain) add(key uint64) (bool, api.Errno) {
	if n := len(p.keys); n > 0 && key <= p.keys[n-1] {
		return false, api.ErrHullOrder
	}
	least, most := p.bounds(key)
	if above(least, most) {
		return false, api.OK
	}
	p.keys, p.least, p.most = append(p.keys, key), least, most
	return true, api.OK
}

// clone is a plain one that goes its own way.
func (p *plain) clone() *plain {
	q := *p
	q.keys = slices.Clone(p.keys)
	return &q
}

// reduced is s in lowest terms.
func reduced(s api.Slope) api.Slope {
	if s.Den == 0 {
		return s
	}
	n, d := new(big.Int).SetUint64(s.Num), new(big.Int).SetUint64(s.Den)
	g := new(big.Int).GCD(nil, nil, n, d)
	return api.Slope{Num: n.Div(n, g).Uint64(), Den: d.Div(d, g).Uint64()}
}

// fresh is a Fit without keys.
func fresh(t *testing.T, eps int) *Fit {
	t.Helper()
	f, e := New(eps)
	if e != api.OK || f == nil {
		t.Fatalf("New(%d) = %v, %v", eps, f, e)
	}
	return f
}

// taken is a Fit that took all these keys.
func taken(t *testing.T, eps int, keys ...uint64) *Fit {
	t.Helper()
	f := fresh(t, eps)
	for i, k := range keys {
		if ok, e := f.Add(k); !ok || e != api.OK {
			t.Fatalf("eps %d: Add(%d), the key number %d: %v, %v", eps, k, i, ok, e)
		}
	}
	return f
}

// same fails, if f has not what p has.
func same(t *testing.T, f *Fit, p *plain) {
	t.Helper()
	if n := len(p.keys); f.Count() != n {
		t.Fatalf("eps %d: Count is %d, not %d", p.e+1, f.Count(), n)
	}
	if l, m := f.Least(), f.Most(); l != reduced(p.least) || m != reduced(p.most) {
		t.Fatalf("eps %d, keys %v: %v to %v, not %v to %v", p.e+1, p.keys, l, m, reduced(p.least), reduced(p.most))
	}
}

// both adds a key to f and p, and holds f against p.
func both(t *testing.T, f *Fit, p *plain, key uint64) bool {
	t.Helper()
	ok, e := f.Add(key)
	wantOk, want := p.add(key)
	if ok != wantOk || e != want {
		t.Fatalf("eps %d: Add(%d) behind %v: %v, %v, not %v, %v", p.e+1, key, p.keys, ok, e, wantOk, want)
	}
	same(t, f, p)
	return ok
}

// streams are rising keys of many kinds, n at most (fewer where the next one would be beyond).
func streams(n int) [][]uint64 {
	next := scatter()
	gaps := []func(i int) uint64{
		func(i int) uint64 { return 1 },
		func(i int) uint64 { return 10 },
		func(i int) uint64 { return top / uint64(n) },
		func(i int) uint64 { return 1 + next()%3 },
		func(i int) uint64 { return 1 + next()%1000 },
		func(i int) uint64 { return 1 + next()>>12 },
		func(i int) uint64 { return 1 + next()%(top/uint64(n)) },
		func(i int) uint64 { return uint64(i + 1) },
		func(i int) uint64 { return uint64(2*n - i) },
		func(i int) uint64 { return uint64(1 + i%7*i%11) },
		func(i int) uint64 { return 1000 + uint64(i)/9 },
		func(i int) uint64 { return 1 << 40 / uint64(i+3) },
		func(i int) uint64 { return 1 << min(i/3, 62) },
		func(i int) uint64 { return 1<<30*uint64(i%13/12) + 1 },
		func(i int) uint64 { return 1<<57>>min(i, 57) + 1 },
		func(i int) uint64 { return 1 + 1000*uint64(1-i/15%2) },
		func(i int) uint64 { return 1 << 50 >> min(i/12*5, 50) },
	}
	var all [][]uint64
	for g, gap := range gaps {
		k := []uint64{0, 7, 1 << 33}[g%3]
		l := []uint64{k}
		for i := 1; i < n; i++ {
			d := gap(i)
			if d > top-k {
				l = append(l, top)
				break
			}
			k += d
			l = append(l, k)
		}
		if l[len(l)-1] < top && g%2 == 1 {
			l = append(l, top)
		}
		all = append(all, l)
	}
	return all
}

// stretches hands over each stretch of keys that one Fit takes, with that Fit, and the key that it refused (more is false, if there was none).
func stretches(t *testing.T, keys []uint64, eps int, do func(f *Fit, keys []uint64, refused uint64, more bool)) {
	t.Helper()
	f, from := fresh(t, eps), 0
	for i, k := range keys {
		ok, e := f.Add(k)
		if e != api.OK {
			t.Fatalf("Add(%d): %v", k, e)
		}
		if ok {
			continue
		}
		do(f, keys[from:i], k, true)
		f, from = taken(t, eps, k), i
	}
	do(f, keys[from:], 0, false)
}

// P4.1
func TestNew(t *testing.T) {
	wrong := []int{math.MinInt, math.MinInt + 2, -1 << 32, 1 << 32, 1<<32 + 2, 1<<63 - 1, 258, 2 - 1<<32}
	for eps := -200; eps <= 200; eps++ {
		if eps < 2 || eps > 64 {
			wrong = append(wrong, eps)
			continue
		}
		same(t, fresh(t, eps), plainOf(eps))
	}
	for _, eps := range wrong {
		if f, e := New(eps); f != nil || e != api.ErrArg {
			t.Errorf("New(%d) = %v, %v", eps, f, e)
		}
	}
}

// P4.2, P4.3
func TestExamples(t *testing.T) {
	for _, x := range []struct {
		keys        []uint64
		least, most api.Slope
	}{
		{nil, flat, steep},
		{[]uint64{7}, flat, steep},
		{[]uint64{0}, flat, steep},
		{[]uint64{top}, flat, steep},
		{[]uint64{0, 1}, flat, api.Slope{Num: 3, Den: 1}},
		{[]uint64{0, 3}, flat, api.Slope{Num: 1, Den: 1}},
		{[]uint64{0, top}, flat, api.Slope{Num: 1, Den: top / 3}},
		{[]uint64{0, top - 1}, flat, api.Slope{Num: 3, Den: top - 1}},
		{[]uint64{top - 1, top}, flat, api.Slope{Num: 3, Den: 1}},
		{[]uint64{10, 20, 30, 40, 50}, api.Slope{Num: 1, Den: 20}, api.Slope{Num: 3, Den: 20}},
		{[]uint64{10, 20, 30, 40, 50, 51}, api.Slope{Num: 3, Den: 41}, api.Slope{Num: 3, Den: 20}},
		{[]uint64{0, 1, 2, 3}, api.Slope{Num: 1, Den: 3}, api.Slope{Num: 5, Den: 3}},
	} {
		f := taken(t, 2, x.keys...)
		if f.Count() != len(x.keys) || f.Least() != x.least || f.Most() != x.most {
			t.Errorf("%v: %d keys, %v to %v", x.keys, f.Count(), f.Least(), f.Most())
		}
	}
	f := taken(t, 2, 10, 20, 30, 40, 50)
	if ok, e := f.Add(50); ok || e != api.ErrHullOrder {
		t.Errorf("Add(50) behind 50: %v, %v", ok, e)
	}
	if ok, e := f.Add(51); !ok || e != api.OK || f.Count() != 6 {
		t.Errorf("Add(51) behind 50: %v, %v, %d keys", ok, e, f.Count())
	}
	f = taken(t, 2, 0, 1, 2, 3)
	if ok, e := f.Add(100); ok || e != api.OK || f.Count() != 4 {
		t.Errorf("Add(100) behind 0, 1, 2, 3: %v, %v, %d keys", ok, e, f.Count())
	}
}

// P4.2
func TestOrder(t *testing.T) {
	for _, eps := range []int{2, 64} {
		for _, k := range []uint64{0, 1, 5, 1 << 63, top - 1, top} {
			f, p := taken(t, eps, k), plainOf(eps)
			p.add(k)
			for _, low := range []uint64{0, 1, 4, 5, 1<<63 - 1, 1 << 63, top - 1, top} {
				if low > k {
					continue
				}
				if ok, e := f.Add(low); ok || e != api.ErrHullOrder {
					t.Errorf("eps %d: Add(%d) behind %d: %v, %v", eps, low, k, ok, e)
				}
				same(t, f, p)
			}
		}
	}
}

// P4.2: a key that was refused is none that the next one must be above.
func TestOrderAndRefused(t *testing.T) {
	f, p := fresh(t, 2), plainOf(2)
	for _, x := range []struct {
		key  uint64
		ok   bool
		want api.Errno
	}{
		{0, true, api.OK}, {1, true, api.OK}, {2, true, api.OK}, {3, true, api.OK},
		{3, false, api.ErrHullOrder}, {0, false, api.ErrHullOrder},
		{top, false, api.OK}, {100, false, api.OK}, {13, false, api.OK},
		{3, false, api.ErrHullOrder}, {2, false, api.ErrHullOrder}, {0, false, api.ErrHullOrder},
		{50, false, api.OK}, {13, false, api.OK},
		{12, true, api.OK},
		{12, false, api.ErrHullOrder}, {3, false, api.ErrHullOrder},
		{16, false, api.OK},
		{12, false, api.ErrHullOrder},
		{15, true, api.OK},
		{13, false, api.ErrHullOrder}, {15, false, api.ErrHullOrder},
	} {
		if ok, e := p.clone().add(x.key); ok != x.ok || e != x.want {
			t.Fatalf("the plain one: add(%d) behind %v: %v, %v", x.key, p.keys, ok, e)
		}
		both(t, f, p, x.key)
	}
}

// P4.2: a key that only just fits, and one that only just does not.
func TestJust(t *testing.T) {
	third, seventh := api.Slope{Num: 1, Den: 3}, api.Slope{Num: 1, Den: 7}
	for _, x := range []struct {
		keys        []uint64
		in, out     uint64
		least, most api.Slope // with in
	}{
		{[]uint64{0, 1, 2, 3}, 12, 13, third, third},
		{[]uint64{0, 1, 2, 3, 12}, 15, 16, third, third},
		{[]uint64{top - 13, top - 12, top - 11, top - 10}, top - 1, top, third, third},
		{[]uint64{10, 20, 30, 40, 50, 51, 52}, 57, 56, seventh, api.Slope{Num: 3, Den: 20}},
	} {
		f := taken(t, 2, x.keys...)
		if ok, _ := f.Clone().Add(x.out); ok {
			t.Errorf("%d fits behind %v", x.out, x.keys)
		}
		if ok, e := f.Add(x.in); !ok || e != api.OK || f.Least() != x.least || f.Most() != x.most {
			t.Errorf("%d behind %v: %v, %v, %v to %v", x.in, x.keys, ok, e, f.Least(), f.Most())
		}
	}
}

// least is the least number from lo to hi of which is holds; it holds of hi, and once it holds it does so of all above.
func least(lo, hi uint64, is func(uint64) bool) uint64 {
	for lo < hi {
		if mid := lo + (hi-lo)/2; is(mid) {
			hi = mid
		} else {
			lo = mid + 1
		}
	}
	return lo
}

// P4.2: the same, behind all beginnings of many streams: the keys that are refused are those nearer than the first that fits, and those further than the last.
func TestEdges(t *testing.T) {
	near, far := 0, 0
	for _, eps := range allEps {
		for _, keys := range streams(150) {
			f, p := fresh(t, eps), plainOf(eps)
			for _, k := range keys {
				if n := len(p.keys); n > 0 && p.keys[n-1] < top {
					a, b := edges(t, f, p)
					near, far = near+a, far+b
				}
				if !both(t, f, p, k) {
					f, p = taken(t, eps, k), plainOf(eps)
					p.add(k)
				}
			}
		}
	}
	if near < 100 || far < 100 {
		t.Errorf("only %d first keys that fit, and %d last ones, have one beside them that does not", near, far)
	}
}

// edges tries the first and the last key that fit behind p's, and those beside them; and tells whether the latter are refused.
func edges(t *testing.T, f *Fit, p *plain) (near, far int) {
	t.Helper()
	after := p.keys[len(p.keys)-1] + 1
	first := least(after, top, func(k uint64) bool { l, _ := p.bounds(k); return !above(l, p.most) })
	beyond := least(first, top, func(k uint64) bool { _, m := p.bounds(k); return above(p.least, m) })
	tries := []uint64{first, beyond, top}
	if first > after {
		tries = append(tries, first-1)
		near = 1
	}
	if beyond > after {
		tries = append(tries, beyond-1)
	}
	if !p.takes(beyond) {
		far = 1
	}
	for _, k := range tries {
		both(t, f.Clone(), p.clone(), k)
	}
	return near, far
}

// P4.2, P4.3
func TestStreams(t *testing.T) {
	for _, eps := range allEps {
		for _, keys := range streams(300) {
			f, p := fresh(t, eps), plainOf(eps)
			for _, k := range keys {
				if !both(t, f, p, k) {
					f, p = taken(t, eps, k), plainOf(eps)
					p.add(k)
				}
			}
		}
	}
}

// P4.2, P4.3: the keys that are refused are left out, and it goes on.
func TestGoesOn(t *testing.T) {
	next := scatter()
	for _, eps := range allEps {
		for range 20 {
			f, p := fresh(t, eps), plainOf(eps)
			key, width := next()>>8, next()%500
			for range 400 {
				both(t, f, p, key)
				key = p.keys[len(p.keys)-1] - 1 + next()%(3+width)
			}
		}
	}
}

// P4.2, P4.3: all rising keys of a few numbers.
func TestAllShort(t *testing.T) {
	numbers := []uint64{0, 1, 2, 3, 4, 7, 9, 20, 21, 40, 1000, 1001, 1 << 63, top - 1, top}
	for set := range 1 << len(numbers) {
		f, p := fresh(t, 2), plainOf(2)
		for i, k := range numbers {
			if set>>i&1 == 1 {
				both(t, f, p, k)
			}
		}
	}
}

// P4.3
func TestLowestTerms(t *testing.T) {
	for _, eps := range allEps {
		for _, keys := range streams(200) {
			stretches(t, keys, eps, func(f *Fit, keys []uint64, _ uint64, _ bool) {
				if l := f.Least(); l.Den == 0 || l != reduced(l) {
					t.Errorf("the least slope over %v: %v", keys, l)
				}
				if m := f.Most(); len(keys) > 1 && (m.Den == 0 || m != reduced(m)) {
					t.Errorf("the greatest slope over %v: %v", keys, m)
				}
			})
		}
	}
	f := taken(t, 2, 0, 4, 8, 12, 16)
	if l, m := f.Least(), f.Most(); l != (api.Slope{Num: 1, Den: 8}) || m != (api.Slope{Num: 3, Den: 8}) {
		t.Errorf("2/16 to 6/16 in lowest terms: %v to %v", l, m)
	}
}

// P4.4
func TestClone(t *testing.T) {
	next := scatter()
	for _, eps := range []int{2, 3, 64} {
		for n := range 60 {
			f, p := fresh(t, eps), plainOf(eps)
			key := next() >> 16
			for range n {
				both(t, f, p, key)
				key += 1 + next()%20
			}
			fits, plains := []*Fit{f}, []*plain{p}
			for range 5 {
				i := next() % uint64(len(fits))
				fits, plains = append(fits, fits[i].Clone()), append(plains, plains[i].clone())
				for range 12 {
					j := next() % uint64(len(fits))
					both(t, fits[j], plains[j], key+next()%60)
					for k := range fits {
						same(t, fits[k], plains[k])
					}
				}
			}
		}
	}
}

// P4.5
func TestFewFit(t *testing.T) {
	next := scatter()
	for eps := 2; eps <= 64; eps++ {
		n := 2*eps - 1
		for range 30 {
			keys := []uint64{0, top}
			for len(keys) < n {
				if k := next(); !slices.Contains(keys, k) {
					keys = append(keys, k)
				}
			}
			slices.Sort(keys)
			if f := taken(t, eps, keys...); f.Least() != flat || f.Count() != n {
				t.Errorf("eps %d: %d of %d keys, the least slope %v", eps, f.Count(), n, f.Least())
			}
		}
		for _, keys := range streams(n) {
			taken(t, eps, keys[:min(n, len(keys))]...)
		}
		bunch := make([]uint64, n)
		for low := range n {
			for i := range bunch {
				bunch[i] = uint64(i)
				if i >= low {
					bunch[i] = top - uint64(n-1-i)
				}
			}
			taken(t, eps, bunch...)
		}
	}
}

// P4.6
func TestNarrows(t *testing.T) {
	one, nothing := api.Slope{Num: 1, Den: 1}, flat
	for _, eps := range allEps {
		for _, keys := range streams(200) {
			f := fresh(t, eps)
			for _, k := range keys {
				was, wasMost := f.Least(), f.Most()
				ok, _ := f.Add(k)
				l, m := f.Least(), f.Most()
				if above(was, l) || above(m, wasMost) {
					t.Errorf("%v to %v widens to %v to %v", was, wasMost, l, m)
				}
				if above(l, m) || above(l, one) || !above(m, nothing) {
					t.Errorf("%v to %v", l, m)
				}
				if !ok {
					if l != was || m != wasMost {
						t.Errorf("%v to %v becomes %v to %v with a key that is refused", was, wasMost, l, m)
					}
					f = taken(t, eps, k)
				}
			}
		}
	}
}

// fits tells whether a line of the slope num by den is near enough to all keys: whether what their ranks are above a line of that slope differs by 2e at most.
func fits(num, den *big.Int, keys []uint64, eps int) bool {
	var low, high, over, way big.Int
	for i, k := range keys {
		over.SetInt64(int64(i))
		over.Mul(&over, den)
		way.SetUint64(k)
		over.Sub(&over, way.Mul(&way, num))
		if i == 0 || over.Cmp(&low) < 0 {
			low.Set(&over)
		}
		if i == 0 || over.Cmp(&high) > 0 {
			high.Set(&over)
		}
	}
	most := new(big.Int).Mul(den, big.NewInt(int64(2*(eps-1))))
	return high.Sub(&high, &low).Cmp(most) <= 0
}

// beside is s, less or more (by sign) by very little.
func beside(s api.Slope, sign int64) (num, den *big.Int) {
	num, den = new(big.Int).SetUint64(s.Num), new(big.Int).SetUint64(s.Den)
	num.Lsh(num, 300)
	return num.Add(num, big.NewInt(sign)), den.Lsh(den, 300)
}

// bothFit holds a Fit against keys that it took and, if there is more, one that it refused.
func bothFit(t *testing.T, f *Fit, keys []uint64, refused uint64, more bool, eps int) {
	t.Helper()
	slopes := []api.Slope{f.Least()}
	if num, den := beside(f.Least(), -1); f.Least() != flat && fits(num, den, keys, eps) {
		t.Errorf("eps %d: a line that is less steep than %v fits over %d keys", eps, f.Least(), len(keys))
	}
	if len(keys) > 1 {
		slopes = append(slopes, f.Most())
		if num, den := beside(f.Most(), 1); fits(num, den, keys, eps) {
			t.Errorf("eps %d: a steeper line than %v fits over %d keys", eps, f.Most(), len(keys))
		}
	}
	for _, s := range slopes {
		num, den := beside(s, 0)
		if !fits(num, den, keys, eps) {
			t.Errorf("eps %d: a line with the slope %v does not fit over %d keys", eps, s, len(keys))
		}
		if more && fits(num, den, append(slices.Clone(keys), refused), eps) {
			t.Errorf("eps %d: a line with the slope %v fits over %d keys and %d, which was refused", eps, s, len(keys), refused)
		}
	}
}

// P4.7
func TestBothFit(t *testing.T) {
	for _, eps := range allEps {
		for _, keys := range streams(300) {
			stretches(t, keys, eps, func(f *Fit, keys []uint64, refused uint64, more bool) {
				bothFit(t, f, keys, refused, more, eps)
			})
		}
	}
}

// P4.7: stretches of many keys.
func TestBothFitLong(t *testing.T) {
	for _, eps := range []int{2, 64} {
		longest := 0
		for _, keys := range streams(20000) {
			stretches(t, keys, eps, func(f *Fit, keys []uint64, refused uint64, more bool) {
				longest = max(longest, len(keys))
				bothFit(t, f, keys, refused, more, eps)
			})
		}
		if longest < 10000 {
			t.Errorf("eps %d: the longest stretch has %d keys", eps, longest)
		}
	}
}

// alike fails, if two Fits do not answer the same.
func alike(t *testing.T, f, g *Fit, what string) {
	t.Helper()
	if f.Count() != g.Count() || f.Least() != g.Least() || f.Most() != g.Most() {
		t.Errorf("%s: %d keys, %v to %v, and %d keys, %v to %v", what, f.Count(), f.Least(), f.Most(), g.Count(), g.Least(), g.Most())
	}
}

// P4.8
func TestMoved(t *testing.T) {
	for _, eps := range allEps {
		for _, keys := range streams(200) {
			down, up := keys[0], top-keys[len(keys)-1]
			f, low, high := fresh(t, eps), fresh(t, eps), fresh(t, eps)
			for _, k := range keys {
				a, _ := f.Add(k)
				b, _ := low.Add(k - down)
				c, _ := high.Add(k + up)
				if a != b || a != c {
					t.Fatalf("eps %d: Add(%d): %v; of keys that are moved: %v, %v", eps, k, a, b, c)
				}
				alike(t, f, low, "moved down")
				alike(t, f, high, "moved up")
				for _, x := range []struct {
					f   *Fit
					key uint64
				}{{f, k}, {low, k - down}, {high, k + up}} {
					if _, e := x.f.Add(x.key); a && e != api.ErrHullOrder {
						t.Errorf("%d anew: %v", x.key, e)
					}
				}
			}
		}
	}
}

// P4.8
func TestTurned(t *testing.T) {
	for _, eps := range allEps {
		for _, keys := range streams(300) {
			stretches(t, keys, eps, func(f *Fit, keys []uint64, _ uint64, _ bool) {
				turned := make([]uint64, len(keys))
				for i, k := range keys {
					turned[len(keys)-1-i] = top - k
				}
				alike(t, f, taken(t, eps, turned...), "turned round")
			})
		}
	}
}

// What is kept does not grow with keys that no line can touch any more.
func TestKeepsLittle(t *testing.T) {
	f := fresh(t, 2)
	for i := range uint64(100000) {
		if ok, _ := f.Add(i * 3); !ok {
			t.Fatalf("the key number %d is refused", i)
		}
	}
	for _, c := range f.chains {
		if len(c.points) != 2 {
			t.Errorf("%d points are kept of a straight line", len(c.points))
		}
	}
}
