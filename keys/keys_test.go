package keys

import (
	"math"
	"slices"
	"testing"

	"incline/api"
)

const top = math.MaxUint64

// scatter gives words without a pattern, of all lengths, always the same ones.
func scatter() func() uint64 {
	x := uint64(0x9e3779b97f4a7c15)
	next := func() uint64 {
		x ^= x << 13
		x ^= x >> 7
		x ^= x << 17
		return x
	}
	return func() uint64 { return next() >> (next() % 64) }
}

// each hands over every list of at most most things of kinds.
func each[T any](kinds []T, most int, do func([]T)) {
	var grow func(l []T)
	grow = func(l []T) {
		do(slices.Clone(l))
		if len(l) == most {
			return
		}
		for _, k := range kinds {
			grow(append(slices.Clone(l), k))
		}
	}
	grow(nil)
}

// kinds are entries of keys at both ends and between, with and without a value, tombstones and others.
func kinds(keys ...uint64) []api.Entry {
	var l []api.Entry
	for _, k := range keys {
		l = append(l, api.Entry{Key: k}, api.Entry{Key: k, Value: top}, api.Entry{Key: k, Gone: true}, api.Entry{Key: k, Value: 1, Gone: true})
	}
	return l
}

// risingKeys are n keys without a pattern that rise, with 0 and 2^64 - 1 if there is room.
func risingKeys(n int, next func() uint64) []uint64 {
	var l []uint64
	if n > 2 {
		l = append(l, 0, top)
	}
	for len(l) < n {
		if k := next(); !slices.Contains(l, k) {
			l = append(l, k)
		}
	}
	slices.Sort(l)
	return l
}

// rightEntries are n entries without a pattern that Check takes, every third one a tombstone or so.
func rightEntries(n int, next func() uint64) []api.Entry {
	var l []api.Entry
	for _, k := range risingKeys(n, next) {
		e := api.Entry{Key: k, Value: next()}
		if next()%3 == 0 {
			e = api.Entry{Key: k, Gone: true}
		}
		l = append(l, e)
	}
	return l
}

// firstWrong goes by the promise's own words, entry by entry.
func firstWrong(l []api.Entry) api.Errno {
	for i, e := range l {
		if i > 0 && e.Key <= l[i-1].Key {
			return api.ErrKeysOrder
		}
		if e.Gone && e.Value != 0 {
			return api.ErrKeysGone
		}
	}
	return api.OK
}

// P3.1
func TestCheck(t *testing.T) {
	for _, x := range []struct {
		l    []api.Entry
		want api.Errno
	}{
		{nil, api.OK},
		{[]api.Entry{}, api.OK},
		{[]api.Entry{{}}, api.OK},
		{[]api.Entry{{Key: top, Value: top}}, api.OK},
		{[]api.Entry{{Key: 0, Value: 1}, {Key: top, Value: 1}}, api.OK},
		{[]api.Entry{{Key: 5, Value: 1}, {Key: 7, Gone: true}}, api.OK},
		{[]api.Entry{{Key: 0, Gone: true}, {Key: top, Gone: true}}, api.OK},
		{[]api.Entry{{Key: 5, Value: 1}, {Key: 5, Value: 2}}, api.ErrKeysOrder},
		{[]api.Entry{{Key: 0}, {Key: 0}}, api.ErrKeysOrder},
		{[]api.Entry{{Key: top}, {Key: top}}, api.ErrKeysOrder},
		{[]api.Entry{{Key: top}, {Key: 0}}, api.ErrKeysOrder},
		{[]api.Entry{{Key: 1}, {Key: 5}, {Key: 4}, {Key: 6}}, api.ErrKeysOrder},
		{[]api.Entry{{Key: 5, Value: 1, Gone: true}}, api.ErrKeysGone},
		{[]api.Entry{{Key: 5, Value: top, Gone: true}}, api.ErrKeysGone},
		{[]api.Entry{{Key: 5}, {Key: 6}, {Key: 7, Value: 1 << 63, Gone: true}}, api.ErrKeysGone},
		{[]api.Entry{{Key: 7, Value: 9, Gone: true}, {Key: 5}}, api.ErrKeysGone},
		{[]api.Entry{{Key: 5}, {Key: 4}, {Key: 6, Value: 9, Gone: true}}, api.ErrKeysOrder},
		{[]api.Entry{{Key: 5}, {Key: 4, Value: 9, Gone: true}}, api.ErrKeysOrder},
		{[]api.Entry{{Key: 5}, {Key: 5, Value: 9, Gone: true}}, api.ErrKeysOrder},
	} {
		if e := Check(x.l); e != x.want {
			t.Errorf("Check(%v) = %v, not %v", x.l, e, x.want)
		}
	}
}

// P3.1
func TestCheckAllShortLists(t *testing.T) {
	each(kinds(0, 1, 2, top), 4, func(l []api.Entry) {
		if e, want := Check(l), firstWrong(l); e != want {
			t.Errorf("Check(%v) = %v, not %v", l, e, want)
		}
	})
}

// P3.1
func TestCheckLongLists(t *testing.T) {
	next := scatter()
	for n := 2; n < 150; n++ {
		l := rightEntries(n, next)
		if e := Check(l); e != api.OK {
			t.Fatalf("Check of right entries: %v", e)
		}
		for i := range n {
			alike, low, gone := slices.Clone(l), slices.Clone(l), slices.Clone(l)
			gone[i].Gone, gone[i].Value = true, 1+next()>>1
			if e := Check(gone); e != api.ErrKeysGone {
				t.Errorf("a tombstone with a value at %d of %d: %v", i, n, e)
			}
			if i == 0 {
				continue
			}
			alike[i].Key = alike[i-1].Key
			low[i].Key = low[0].Key
			if a, b := Check(alike), Check(low); a != api.ErrKeysOrder || b != api.ErrKeysOrder {
				t.Errorf("a key that does not rise at %d of %d: %v, %v", i, n, a, b)
			}
			both := slices.Clone(gone)
			both[n-1].Key = both[n-2].Key
			want := api.ErrKeysGone
			if i == n-1 {
				want = api.ErrKeysOrder
			}
			if e := Check(both); e != want {
				t.Errorf("a tombstone with a value at %d, a key that does not rise at %d: %v, not %v", i, n-1, e, want)
			}
		}
	}
}

func plainRising(l []uint64) bool {
	for i := range l {
		if i > 0 && !(l[i-1] < l[i]) {
			return false
		}
	}
	return true
}

// P3.2
func TestRising(t *testing.T) {
	for _, x := range []struct {
		l    []uint64
		want bool
	}{
		{nil, true},
		{[]uint64{}, true},
		{[]uint64{0}, true},
		{[]uint64{3}, true},
		{[]uint64{top}, true},
		{[]uint64{3, 3}, false},
		{[]uint64{0, 0}, false},
		{[]uint64{top, top}, false},
		{[]uint64{0, top}, true},
		{[]uint64{top, 0}, false},
		{[]uint64{1<<63 - 1, 1 << 63}, true},
		{[]uint64{1 << 63, 1<<63 - 1}, false},
		{[]uint64{1, 2, 3, 3}, false},
		{[]uint64{2, 1, 3, 4}, false},
	} {
		if r := Rising(x.l); r != x.want {
			t.Errorf("Rising(%v) = %v", x.l, r)
		}
	}
	each([]uint64{0, 1, 2, top - 1, top}, 5, func(l []uint64) {
		if Rising(l) != plainRising(l) {
			t.Errorf("Rising(%v) = %v", l, Rising(l))
		}
	})
}

// P3.3
func TestOf(t *testing.T) {
	each(kinds(0, 5, top), 3, func(l []api.Entry) {
		ks := Of(l)
		if len(ks) != len(l) {
			t.Fatalf("Of(%v) = %v", l, ks)
		}
		for i, k := range ks {
			if k != l[i].Key {
				t.Errorf("Of(%v) = %v", l, ks)
			}
		}
	})
	if ks := Of([]api.Entry{{Key: 5, Value: 1}, {Key: 3, Gone: true}}); !slices.Equal(ks, []uint64{5, 3}) {
		t.Errorf("keys %v, not 5, 3", ks)
	}
	if ks := Of(nil); len(ks) != 0 {
		t.Errorf("keys of none: %v", ks)
	}
}

// P3.4
func TestRank(t *testing.T) {
	tens := []uint64{10, 20, 30}
	for _, x := range []struct {
		l     []uint64
		q     uint64
		want  int
		there bool
	}{
		{tens, 20, 1, true},
		{tens, 25, 2, false},
		{tens, 0, 0, false},
		{tens, 9, 0, false},
		{tens, 10, 0, true},
		{tens, 11, 1, false},
		{tens, 30, 2, true},
		{tens, 31, 3, false},
		{tens, top, 3, false},
		{nil, 4, 0, false},
		{[]uint64{}, 0, 0, false},
		{nil, top, 0, false},
		{[]uint64{7}, 6, 0, false},
		{[]uint64{7}, 7, 0, true},
		{[]uint64{7}, 8, 1, false},
		{[]uint64{0, top}, 0, 0, true},
		{[]uint64{0, top}, 1, 1, false},
		{[]uint64{0, top}, top - 1, 1, false},
		{[]uint64{0, top}, top, 1, true},
		{[]uint64{2, 1}, 1, -1, false},
		{[]uint64{2, 1}, 2, -1, false},
		{[]uint64{3, 3}, 3, -1, false},
		{[]uint64{3, 3}, 0, -1, false},
		{[]uint64{1, 2, 3, 3}, 1, -1, false},
		{[]uint64{top, 0}, 5, -1, false},
	} {
		if n, there := Rank(x.l, x.q); n != x.want || there != x.there {
			t.Errorf("Rank(%v, %d) = %d, %v, not %d, %v", x.l, x.q, n, there, x.want, x.there)
		}
	}
}

// P3.4
func TestRankAllShortLists(t *testing.T) {
	each([]uint64{0, 2, 3, 5, top - 1, top}, 5, func(l []uint64) {
		for _, q := range []uint64{0, 1, 2, 3, 4, 5, 6, 1 << 63, top - 2, top - 1, top} {
			want, there := -1, false
			if plainRising(l) {
				want, there = countBelow(l, q), slices.Contains(l, q)
			}
			if n, is := Rank(l, q); n != want || is != there {
				t.Errorf("Rank(%v, %d) = %d, %v, not %d, %v", l, q, n, is, want, there)
			}
		}
	})
}

func countBelow(l []uint64, q uint64) int {
	n := 0
	for _, k := range l {
		if k < q {
			n++
		}
	}
	return n
}

// P3.5
func TestLive(t *testing.T) {
	if n := Live([]api.Entry{{Key: 5, Value: 1}, {Key: 7, Gone: true}, {Key: 2}}); n != 2 {
		t.Errorf("%d live, not 2", n)
	}
	if n := Live(nil); n != 0 {
		t.Errorf("%d live of none", n)
	}
	each(kinds(0, 5, top), 3, func(l []api.Entry) {
		want := len(l)
		for _, e := range l {
			if e.Gone {
				want--
			}
		}
		if n := Live(l); n != want {
			t.Errorf("Live(%v) = %d, not %d", l, n, want)
		}
	})
}

// P3.6
func TestWhereItIs(t *testing.T) {
	next := scatter()
	for n := range 120 {
		l := risingKeys(n, next)
		qs := []uint64{0, 1, top - 1, top}
		for i, k := range l {
			if r, there := Rank(l, k); r != i || !there {
				t.Errorf("of %d keys that of slot %d: %d, %v", n, i, r, there)
			}
			qs = append(qs, k-1, k, k+1, next())
		}
		slices.Sort(qs)
		before := 0
		for _, q := range qs {
			r, there := Rank(l, q)
			if r < before || r > n {
				t.Fatalf("the rank of %d falls from %d to %d, or is above %d", q, before, r, n)
			}
			before = r
			if r > 0 && l[r-1] >= q || r < n && l[r] < q {
				t.Errorf("rank %d of %d parts %v in a wrong place", r, q, l)
			}
			if there != (r < n && l[r] == q) {
				t.Errorf("%d at rank %d of %v: %v", q, r, l, there)
			}
		}
	}
}

// P3.7
func TestPieces(t *testing.T) {
	next := scatter()
	for n := range 40 {
		l := rightEntries(n, next)
		if !Rising(Of(l)) {
			t.Errorf("keys of right entries do not rise: %v", l)
		}
		for i := range n + 1 {
			for j := i; j <= n; j++ {
				if e := Check(l[i:j]); e != api.OK {
					t.Errorf("Check of a piece of right entries: %v", e)
				}
			}
			if Live(l[:i])+Live(l[i:]) != Live(l) {
				t.Errorf("live entries of two pieces: %d and %d, of both %d", Live(l[:i]), Live(l[i:]), Live(l))
			}
		}
	}
}

// P3.7
func TestTwoTogether(t *testing.T) {
	var right [][]api.Entry
	each(kinds(0, 1, 2, top), 3, func(l []api.Entry) {
		if Check(l) == api.OK {
			right = append(right, l)
		}
	})
	for _, a := range right {
		if !Rising(Of(a)) {
			t.Errorf("keys of right entries do not rise: %v", a)
		}
		for _, b := range right {
			both := slices.Concat(a, b)
			fit := len(a) == 0 || len(b) == 0 || a[len(a)-1].Key < b[0].Key
			want := api.OK
			if !fit {
				want = api.ErrKeysOrder
			}
			if e := Check(both); e != want {
				t.Errorf("%v and %v together: %v, not %v", a, b, e, want)
			}
			if Live(both) != Live(a)+Live(b) {
				t.Errorf("%v and %v together: %d live", a, b, Live(both))
			}
		}
	}
}

// R4
func TestMemory(t *testing.T) {
	next := scatter()
	for n := range 20 {
		roomy := append(rightEntries(n, next), api.Entry{Key: 1, Value: 2, Gone: true}, api.Entry{})
		keys := append(risingKeys(n, next), 0, 0)
		roomyWas, keysWas := slices.Clone(roomy), slices.Clone(keys)
		l, ks := roomy[:n], keys[:n]
		if Check(l) != api.OK || !Rising(ks) || Live(l) > n {
			t.Errorf("what is behind a list of %d is read", n)
		}
		if r, there := Rank(ks, top); there != (n > 0 && ks[n-1] == top) || r > n {
			t.Errorf("Rank looks behind a list of %d: %d, %v", n, r, there)
		}
		a, b := Of(l), Of(l)
		want := slices.Clone(b)
		a = a[:cap(a)]
		for i := range a {
			a[i]++
		}
		if !slices.Equal(b, want) {
			t.Errorf("two answers of %d keys share memory", n)
		}
		if !slices.Equal(roomy, roomyWas) || !slices.Equal(keys, keysWas) {
			t.Errorf("a list of %d that was handed in is changed", n)
		}
	}
}
