package judge

import (
	"math"
	"slices"
	"sync"
	"testing"

	"incline/api"
	"incline/ask"
	"incline/tower"
)

const top = math.MaxUint64

// noKinds are those that no operation has, such ones, too, that would be one if their upper bits were left out.
var noKinds = []int{9, 8, 0, -1, -7, 10, 1 << 8, 1<<8 + 1, 1<<16 + 2, 1<<32 + 1, 1<<32 + 7, math.MaxInt, math.MinInt, math.MinInt + 1}

// wrongMosts are numbers of keys that no map may have.
var wrongMosts = []int{0, -1, -2, -1 << 32, math.MinInt, math.MinInt + 1, 1<<32 + 1, 1<<32 + 2, 1 << 33, 1 << 62, math.MaxInt}

func put(key, value uint64) api.Op { return api.Op{Kind: api.OpPut, Key: key, Value: value} }

func del(key uint64) api.Op { return api.Op{Kind: api.OpDelete, Key: key} }

func get(key uint64) api.Op { return api.Op{Kind: api.OpGet, Key: key} }

func floor(key uint64) api.Op { return api.Op{Kind: api.OpFloor, Key: key} }

func ceil(key uint64) api.Op { return api.Op{Kind: api.OpCeil, Key: key} }

func rank(key uint64) api.Op { return api.Op{Kind: api.OpRank, Key: key} }

func span(from, to uint64) api.Op { return api.Op{Kind: api.OpRange, Key: from, Value: to} }

// answers that most tests want.
var (
	ok, yes, full, noKind = api.Answer{}, api.Answer{Is: true}, api.Answer{Code: api.ErrFull}, api.Answer{Code: api.ErrArg}
)

func value(v uint64) api.Answer { return api.Answer{Is: true, Value: v} }

func pair(key, value uint64) api.Answer { return api.Answer{Is: true, Key: key, Value: value} }

func num(n int) api.Answer { return api.Answer{Num: n} }

// list is an answer of a range: keys and values by turns.
func list(l ...uint64) api.Answer { return api.Answer{List: pairs(l...)} }

func pairs(l ...uint64) []api.Pair {
	var p []api.Pair
	for i := 0; i < len(l); i += 2 {
		p = append(p, api.Pair{Key: l[i], Value: l[i+1]})
	}
	return p
}

// scatter gives words without a pattern, of all lengths, always the same ones.
func scatter() func() uint64 {
	x := uint64(0x9e3779b97f4a7c15)
	next := func() uint64 {
		x ^= x << 13
		x ^= x >> 7
		x ^= x << 17
		return x
	}
	return func() uint64 { return next() >> (next() % 64) }
}

// among is a number below n, whatever its length.
func among(next func() uint64, n int) int { return int(next() * 0x9e3779b97f4a7c15 >> 32 % uint64(n)) }

// rows is the plain map by the chapter's words, as a list of rising keys: it shares no way of working with the judge's.
type rows struct {
	most int
	l    []api.Pair
}

// place is where a key is, or would be, and whether it is there.
func (r *rows) place(key uint64) (int, bool) {
	i := 0
	for i < len(r.l) && r.l[i].Key < key {
		i++
	}
	return i, i < len(r.l) && r.l[i].Key == key
}

func (r *rows) at(i int) api.Answer {
	if i < 0 || i >= len(r.l) {
		return ok
	}
	return pair(r.l[i].Key, r.l[i].Value)
}

// do is what is right to answer, once an operation is done.
func (r *rows) do(o api.Op) api.Answer {
	i, is := r.place(o.Key)
	switch o.Kind {
	case api.OpPut:
		switch {
		case is:
			r.l[i].Value = o.Value
		case len(r.l) == r.most:
			return full
		default:
			r.l = slices.Insert(r.l, i, api.Pair{Key: o.Key, Value: o.Value})
		}
		return ok
	case api.OpDelete:
		if is {
			r.l = slices.Delete(r.l, i, i+1)
			return yes
		}
		return ok
	case api.OpGet:
		if is {
			return value(r.l[i].Value)
		}
		return ok
	case api.OpFloor:
		if is {
			return r.at(i)
		}
		return r.at(i - 1)
	case api.OpCeil:
		return r.at(i)
	case api.OpRank:
		return num(i)
	case api.OpRange:
		var l []api.Pair
		for ; i < len(r.l) && r.l[i].Key <= o.Value; i++ {
			l = append(l, r.l[i])
		}
		return api.Answer{List: l}
	}
	return noKind
}

// right are the right answers to operations, one behind the other.
func right(most int, l []api.Op) []api.Answer {
	r := &rows{most: most}
	var a []api.Answer
	for _, o := range l {
		a = append(a, r.do(o))
	}
	return a
}

// made is a judge of a map with at most so many keys, to whom operations were shown.
func made(t *testing.T, most int, l ...api.Op) *Judge {
	t.Helper()
	j, e := New(most)
	if j == nil || e != api.OK {
		t.Fatalf("New(%d): %v, %d", most, j, e)
	}
	for _, o := range l {
		j.See(o, ok)
	}
	return j
}

// sees fails, unless an answer breaks just these rules.
func sees(t *testing.T, j *Judge, o api.Op, a api.Answer, rules ...int) {
	t.Helper()
	was := j.Pairs()
	if got := j.See(o, a); !slices.Equal(got, rules) {
		t.Fatalf("See(%v, %v) of %.20v: %v, not %v", o, a, was, got, rules)
	}
}

// has fails, unless a judge's map has just these keys and values, by turns.
func has(t *testing.T, j *Judge, l ...uint64) {
	t.Helper()
	if got := j.Pairs(); !slices.Equal(got, pairs(l...)) {
		t.Fatalf("Pairs: %v, not %v", got, pairs(l...))
	}
}

// tells fails, unless just these faults are found.
func tells(t *testing.T, most int, l []api.Op, a []api.Answer, faults ...api.Fault) {
	t.Helper()
	if got, e := All(most, l, a); !slices.Equal(got, faults) || e != api.OK {
		t.Fatalf("All(%d, %.20v, %.20v): %.20v, %d, not %v", most, l, a, got, e, faults)
	}
}

func ops(l ...api.Op) []api.Op { return l }

func answers(a ...api.Answer) []api.Answer { return a }

// someKey is a key mostly below a bound.
func someKey(next func() uint64, below int) uint64 {
	switch among(next, 20) {
	case 0:
		return []uint64{0, 1, 1<<31 - 1, 1 << 32, 1<<53 + 1, 1<<63 - 1, 1 << 63, top - 1, top}[among(next, 9)]
	case 1:
		return next()
	}
	return uint64(among(next, below))
}

// someOp is any operation, or now and then none.
func someOp(next func() uint64, below int) api.Op {
	o := api.Op{Key: someKey(next, below), Value: someKey(next, below)}
	switch n := among(next, 40); {
	case n < 14:
		o.Kind = api.OpPut
	case n < 39:
		o.Kind = api.OpDelete + n%6
	default:
		o.Kind = noKinds[among(next, len(noKinds))]
	}
	return o
}

func someOps(next func() uint64, n, below int) []api.Op {
	var l []api.Op
	for range n {
		l = append(l, someOp(next, below))
	}
	return l
}

// turn is an answer with one thing turned, and the rule that it breaks then.
type turn struct {
	a    api.Answer
	rule int
}

// codes, keys and nums are a thing turned: near to what it was, and where some of its bits are left out the same.
func codes(c api.Errno) []api.Errno {
	return []api.Errno{c + 1, c - 1, -c - 1, c ^ 1<<8, c ^ 1<<32, c ^ math.MinInt}
}

func keys(k uint64) []uint64 { return []uint64{k + 1, k - 1, ^k, k ^ 1<<31, k ^ 1<<32, k ^ 1<<63} }

func nums(n int) []int { return []int{n + 1, n - 1, -n - 1, n ^ 1<<31, n ^ 1<<32, n ^ math.MinInt} }

// lists are a list turned: one pair more or fewer, in front, behind and between, another key or value, and two pairs with their places changed.
func lists(l []api.Pair) [][]api.Pair {
	more := [][]api.Pair{append(slices.Clone(l), api.Pair{}), append([]api.Pair{{Key: 7, Value: 7}}, l...)}
	for i, p := range l {
		more = append(more, slices.Delete(slices.Clone(l), i, i+1), slices.Insert(slices.Clone(l), i, p))
		for _, k := range keys(p.Key) {
			other := slices.Clone(l)
			other[i].Key = k
			more = append(more, other)
		}
		for _, v := range keys(p.Value) {
			other := slices.Clone(l)
			other[i].Value = v
			more = append(more, other)
		}
		if i > 0 {
			other := slices.Clone(l)
			other[i], other[i-1] = other[i-1], other[i]
			more = append(more, other)
		}
	}
	return more
}

// turns are an answer with one thing turned, in all ways that are tried.
func turns(a api.Answer) []turn {
	var l []turn
	keep := func(rule int, change func(*api.Answer)) {
		b := a
		change(&b)
		l = append(l, turn{b, rule})
	}
	for _, c := range codes(a.Code) {
		keep(api.RuleCode, func(b *api.Answer) { b.Code = c })
	}
	keep(api.RuleIs, func(b *api.Answer) { b.Is = !b.Is })
	for _, k := range keys(a.Key) {
		keep(api.RulePair, func(b *api.Answer) { b.Key = k })
	}
	for _, v := range keys(a.Value) {
		keep(api.RulePair, func(b *api.Answer) { b.Value = v })
		keep(api.RulePair, func(b *api.Answer) { b.Key, b.Value = b.Key+1, v })
	}
	for _, n := range nums(a.Num) {
		keep(api.RuleNum, func(b *api.Answer) { b.Num = n })
	}
	for _, other := range lists(a.List) {
		keep(api.RuleList, func(b *api.Answer) { b.List = other })
	}
	return l
}

// spoiled is an answer that breaks just those rules whose bits are set, and these rules.
func spoiled(a api.Answer, bits int) (api.Answer, []int) {
	var rules []int
	for rule := api.RuleCode; rule <= api.RuleList; rule++ {
		if bits>>(rule-1)&1 == 0 {
			continue
		}
		rules = append(rules, rule)
		switch rule {
		case api.RuleCode:
			a.Code++
		case api.RuleIs:
			a.Is = !a.Is
		case api.RulePair:
			a.Value++
		case api.RuleNum:
			a.Num--
		case api.RuleList:
			a.List = append(slices.Clone(a.List), api.Pair{Key: 5})
		}
	}
	return a, rules
}

// spoiledAll are answers of which some break some rules, and all of these faults.
func spoiledAll(next func() uint64, a []api.Answer) ([]api.Answer, []api.Fault) {
	var b []api.Answer
	var faults []api.Fault
	for at, x := range a {
		bits := 0
		if among(next, 3) == 0 {
			bits = among(next, 32)
		}
		y, rules := spoiled(x, bits)
		b = append(b, y)
		for _, rule := range rules {
			faults = append(faults, api.Fault{At: at, Rule: rule})
		}
	}
	return b, faults
}

// P23.2, P23.4: the chapter's examples.
func TestExamples(t *testing.T) {
	tells(t, 2, ops(put(1, 10), put(2, 20), put(3, 30), get(2)), answers(ok, ok, full, value(20)))
	tells(t, 2, ops(put(1, 10), get(1)), answers(ok, api.Answer{Is: true, Value: 11, Num: 1}), api.Fault{At: 1, Rule: 3}, api.Fault{At: 1, Rule: 4})
	tells(t, 2, ops(rank(5), rank(5)), answers(ok), api.Fault{At: 1, Rule: 6})
	tells(t, 2, nil, answers(ok), api.Fault{At: 0, Rule: 6})
	if faults, e := All(0, nil, nil); len(faults) > 0 || e != api.ErrArg {
		t.Error(faults, e)
	}
	j := made(t, 2)
	sees(t, j, del(7), yes, api.RuleIs)
	sees(t, j, api.Op{Kind: 9}, ok, api.RuleCode)
	sees(t, j, api.Op{Kind: 9}, noKind)
	sees(t, j, span(9, 3), list(4, 4), api.RuleList)
}

// P23.1: a map may have 1 to MaxRun keys; with any other number there is no judge.
func TestNew(t *testing.T) {
	for _, most := range []int{1, 2, 3, 100, 1 << 31, 1<<32 - 1, 1 << 32} {
		has(t, made(t, most))
	}
	for _, most := range wrongMosts {
		if j, e := New(most); j != nil || e != api.ErrArg {
			t.Errorf("New(%d): %v, %d", most, j, e)
		}
	}
}

// P23.4: as for New; whatever the lists are, nothing else is told then.
func TestAllWrongMost(t *testing.T) {
	for _, most := range wrongMosts {
		for _, l := range [][]api.Op{nil, {}, {get(1)}, {put(1, 2), get(1), {Kind: 9}}} {
			for _, a := range [][]api.Answer{nil, {}, {ok}, {yes, list(1, 2)}, {ok, value(2), noKind}} {
				if faults, e := All(most, l, a); len(faults) > 0 || e != api.ErrArg {
					t.Errorf("All(%d, %v, %v): %v, %d", most, l, a, faults, e)
				}
			}
		}
	}
	for _, most := range []int{1, 1<<32 - 1, 1 << 32} {
		tells(t, most, ops(put(1, 2), get(1)), answers(ok, value(2)))
	}
}

// P23.1: a map takes new keys until it has as many as it may have, and no more; those that are there are put anew all the same.
func TestMost(t *testing.T) {
	for most := 1; most < 20; most++ {
		j := made(t, most)
		var want []uint64
		for key := range uint64(most) {
			sees(t, j, put(key, 10*key), ok)
			want = append(want, key, 10*key)
		}
		has(t, j, want...)
		for _, key := range []uint64{uint64(most), uint64(most) + 1, 1 << 63, top} {
			sees(t, j, put(key, 1), full)
			sees(t, j, put(key, 1), ok, api.RuleCode)
			has(t, j, want...)
		}
		sees(t, j, put(0, 7), ok)
		sees(t, j, put(0, 8), full, api.RuleCode)
		sees(t, j, get(0), value(8))
		sees(t, j, del(uint64(most)-1), yes)
		sees(t, j, put(top, 1), ok)
		sees(t, j, put(uint64(most), 1), full)
		sees(t, j, rank(top), num(most-1))
	}
}

// P23.2: each kind in a map without keys.
func TestNoKeys(t *testing.T) {
	for _, key := range []uint64{0, 1, 5, 1 << 63, top - 1, top} {
		j := made(t, 3)
		for _, o := range ops(del(key), get(key), floor(key), ceil(key), rank(key), span(key, top), span(0, key), span(key, 0)) {
			sees(t, j, o, ok)
			sees(t, j, o, yes, api.RuleIs)
			sees(t, j, o, value(1), api.RuleIs, api.RulePair)
			sees(t, j, o, num(1), api.RuleNum)
			sees(t, j, o, list(key, 0), api.RuleList)
		}
		has(t, j)
	}
}

// P23.2: each kind in a map with the keys 10, 20 and 30.
func TestEachKind(t *testing.T) {
	j := made(t, 3, put(20, 2), put(30, 3), put(10, 1))
	has(t, j, 10, 1, 20, 2, 30, 3)
	for i, want := range []api.Answer{ok, pair(10, 1), pair(10, 1), pair(20, 2), pair(20, 2), pair(30, 3), pair(30, 3)} {
		sees(t, j, floor(uint64(5+5*i)), want)
	}
	for i, want := range []api.Answer{pair(10, 1), pair(10, 1), pair(20, 2), pair(20, 2), pair(30, 3), pair(30, 3), ok} {
		sees(t, j, ceil(uint64(5+5*i)), want)
	}
	for i, want := range []int{0, 0, 1, 1, 2, 2, 3} {
		sees(t, j, rank(uint64(5+5*i)), num(want))
	}
	for i, want := range []api.Answer{ok, value(1), ok, value(2), ok, value(3), ok} {
		sees(t, j, get(uint64(5+5*i)), want)
	}
	sees(t, j, del(15), ok)
	sees(t, j, del(20), yes)
	sees(t, j, del(20), ok)
	has(t, j, 10, 1, 30, 3)
}

// P23.2: ranges, their ends too; one whose Key is above its Value is of no keys, and one of all keys.
func TestRange(t *testing.T) {
	j := made(t, 5, put(20, 2), put(top, 4), put(30, 3), put(0, 0), put(10, 1))
	sees(t, j, span(10, 30), list(10, 1, 20, 2, 30, 3))
	sees(t, j, span(11, 29), list(20, 2))
	sees(t, j, span(9, 31), list(10, 1, 20, 2, 30, 3))
	sees(t, j, span(20, 20), list(20, 2))
	sees(t, j, span(21, 29), ok)
	sees(t, j, span(0, top), list(0, 0, 10, 1, 20, 2, 30, 3, top, 4))
	sees(t, j, span(0, 0), list(0, 0))
	sees(t, j, span(top, top), list(top, 4))
	sees(t, j, span(1, top-1), list(10, 1, 20, 2, 30, 3))
	for _, o := range ops(span(30, 10), span(11, 10), span(20, 19), span(top, 0), span(top, top-1), span(1, 0)) {
		sees(t, j, o, ok)
		sees(t, j, o, list(10, 1), api.RuleList)
		sees(t, j, o, list(20, 2, 10, 1), api.RuleList)
	}
}

// P23.2: the keys 0 and the greatest, with the least values and the greatest.
func TestEnds(t *testing.T) {
	j := made(t, 2, put(0, top), put(top, 0))
	has(t, j, 0, top, top, 0)
	sees(t, j, get(0), value(top))
	sees(t, j, get(top), yes)
	sees(t, j, floor(0), pair(0, top))
	sees(t, j, floor(top-1), pair(0, top))
	sees(t, j, floor(top), pair(top, 0))
	sees(t, j, ceil(0), pair(0, top))
	sees(t, j, ceil(1), pair(top, 0))
	sees(t, j, ceil(top), pair(top, 0))
	sees(t, j, rank(0), num(0))
	sees(t, j, rank(1), num(1))
	sees(t, j, rank(top), num(1))
	sees(t, j, del(0), yes)
	sees(t, j, floor(0), ok)
	sees(t, j, floor(top-1), ok)
	sees(t, j, ceil(0), pair(top, 0))
	sees(t, j, put(0, 0), ok)
	sees(t, j, floor(5), yes)
	sees(t, j, del(top), yes)
	sees(t, j, ceil(1), ok)
	sees(t, j, ceil(top), ok)
	has(t, j, 0, 0)
}

// P23.2: floor and ceil where no key is on that side, the 0 and the value 0 that there are being no answer.
func TestNoneOnThatSide(t *testing.T) {
	j := made(t, 9, put(5, 0), put(6, 7))
	for _, q := range []uint64{0, 1, 4} {
		sees(t, j, floor(q), ok)
		sees(t, j, floor(q), yes, api.RuleIs)
		sees(t, j, floor(q), pair(5, 0), api.RuleIs, api.RulePair)
	}
	for _, q := range []uint64{7, 8, top} {
		sees(t, j, ceil(q), ok)
		sees(t, j, ceil(q), api.Answer{Key: 6, Value: 7}, api.RulePair)
		sees(t, j, ceil(q), api.Answer{Key: top}, api.RulePair)
	}
}

// P23.2: a key that was deleted is there no more, and is there again when it is put.
func TestPutAgain(t *testing.T) {
	j := made(t, 2, put(1, 10), put(2, 20))
	sees(t, j, del(1), yes)
	for _, o := range ops(get(1), floor(1), rank(2), span(0, 1), del(1)) {
		sees(t, j, o, ok)
	}
	sees(t, j, ceil(1), pair(2, 20))
	has(t, j, 2, 20)
	sees(t, j, put(1, 11), ok)
	sees(t, j, get(1), value(11))
	sees(t, j, rank(2), num(1))
	has(t, j, 1, 11, 2, 20)
	sees(t, j, put(3, 30), full)
}

// P23.2: a kind that no operation has is answered by ErrArg, and does nothing.
func TestNoKinds(t *testing.T) {
	for _, kind := range noKinds {
		j := made(t, 1, put(1, 10))
		for _, key := range []uint64{0, 1, 2, top} {
			o := api.Op{Kind: kind, Key: key, Value: 3}
			sees(t, j, o, noKind)
			sees(t, j, o, ok, api.RuleCode)
			sees(t, j, o, full, api.RuleCode)
			sees(t, j, o, yes, api.RuleCode, api.RuleIs)
			sees(t, j, o, api.Answer{Code: api.ErrArg, Key: key, Value: 4}, api.RulePair)
			sees(t, j, o, api.Answer{Code: api.ErrArg, Num: 1, List: pairs(1, 10)}, api.RuleNum, api.RuleList)
			has(t, j, 1, 10)
		}
	}
}

// P23.2: a list that is nil is one that is empty, where the right one has no pairs, and where it has some.
func TestNilList(t *testing.T) {
	for _, none := range [][]api.Pair{nil, {}, make([]api.Pair, 0, 5)} {
		a := api.Answer{List: none}
		j := made(t, 3)
		for _, o := range ops(put(1, 10), span(5, 3), span(2, 9), get(0), floor(0), del(0), rank(0)) {
			sees(t, j, o, a)
		}
		sees(t, j, span(0, 9), a, api.RuleList)
		sees(t, j, api.Op{Kind: 9}, api.Answer{Code: api.ErrArg, List: none})
	}
}

// P23.2: an operation is done whatever is answered to it.
func TestDoneWhatever(t *testing.T) {
	next := scatter()
	for range 30 {
		l := someOps(next, 100, 12)
		honest, lied := made(t, 8), made(t, 8)
		for i, a := range right(8, l) {
			b, rules := spoiled(a, among(next, 32))
			sees(t, honest, l[i], a)
			sees(t, lied, l[i], b, rules...)
			if p, q := honest.Pairs(), lied.Pairs(); !slices.Equal(p, q) {
				t.Fatalf("%v: %v, not %v", l[:i+1], q, p)
			}
		}
	}
	j := made(t, 1)
	sees(t, j, put(1, 10), full, api.RuleCode)
	sees(t, j, put(2, 20), ok, api.RuleCode)
	has(t, j, 1, 10)
	sees(t, j, del(1), ok, api.RuleIs)
	has(t, j)
}

// P23.2, P23.5: operations of all kinds, answered by a plain map of the test's own, break no rule.
func TestPlainMap(t *testing.T) {
	next := scatter()
	for _, most := range []int{1, 2, 3, 7, 20, 1 << 32} {
		for _, below := range []int{2, 5, 30, 200} {
			l := someOps(next, 400, below)
			j, r := made(t, most), &rows{most: most}
			for _, o := range l {
				sees(t, j, o, r.do(o))
				if got := j.Pairs(); !slices.Equal(got, r.l) {
					t.Fatalf("Pairs behind %v: %v, not %v", o, got, r.l)
				}
			}
			tells(t, most, l, right(most, l))
		}
	}
}

// P23.5: nothing is found in what towers answer, whatever their config.
func TestNoFalseBlame(t *testing.T) {
	next := scatter()
	for _, c := range []api.Config{
		{Eps: 2, Buf: 1, Keys: 1}, {Eps: 2, Buf: 1, Keys: 9}, {Eps: 2, Buf: 4, Keys: 100}, {Eps: 3, Buf: 2, Keys: 2}, {Eps: 7, Buf: 5, Keys: 30},
		{Eps: 64, Buf: 3, Keys: 1 << 30}, {Eps: 64, Buf: 1<<32 - 2, Keys: 1}, {Eps: 2, Buf: 1, Keys: 1<<31 - 1}, {Eps: 2, Buf: 2, Keys: 1<<31 - 1},
	} {
		for _, below := range []int{4, 40, 300} {
			x, e := tower.New(c)
			if e != api.OK {
				t.Fatal(c, e)
			}
			l := someOps(next, 500, below)
			var a []api.Answer
			for _, o := range l {
				a = append(a, ask.Do(x, o))
			}
			tells(t, c.Keys, l, a)
		}
	}
}

// P23.6: of an answer with one thing turned just that rule is told, of every kind of operation.
func TestFindsEach(t *testing.T) {
	next := scatter()
	for _, most := range []int{1, 4, 1 << 32} {
		l := someOps(next, 150, 9)
		l = append(l, put(3, 4), put(3, 5), span(0, top), put(5, top), span(0, 8), api.Op{Kind: 9}, floor(top), ceil(0))
		a := right(most, l)
		for at, o := range l {
			for _, x := range turns(a[at]) {
				sees(t, made(t, most, l[:at]...), o, x.a, x.rule)
			}
		}
	}
}

// P23.6: of all answers with one thing turned in one of them just that fault is found.
func TestAllFindsEach(t *testing.T) {
	next := scatter()
	l := someOps(next, 60, 8)
	a := right(6, l)
	for at := range l {
		for _, x := range turns(a[at]) {
			b := slices.Clone(a)
			b[at] = x.a
			tells(t, 6, l, b, api.Fault{At: at, Rule: x.rule})
		}
	}
}

// P23.2, P23.6: of an answer that breaks several rules all are told, rising, of every choice of them.
func TestFindsSeveral(t *testing.T) {
	l := ops(put(1, 10), put(2, 20), put(3, 30), put(1, 11), get(1), get(7), floor(9), ceil(9), rank(2), span(0, 9), span(9, 0), api.Op{Kind: 8}, del(7), del(1))
	a := right(2, l)
	for at, o := range l {
		for bits := range 32 {
			b, rules := spoiled(a[at], bits)
			sees(t, made(t, 2, l[:at]...), o, b, rules...)
		}
	}
}

// P23.4: all faults are told, operation by operation, and of each rule by rule.
func TestAllFindsSeveral(t *testing.T) {
	next := scatter()
	for range 40 {
		l := someOps(next, 200, 15)
		b, faults := spoiledAll(next, right(10, l))
		tells(t, 10, l, b, faults...)
	}
}

// P23.4: All tells what a judge tells one by one.
func TestAllAsSee(t *testing.T) {
	next := scatter()
	for range 20 {
		l, a := someOps(next, 100, 10), right(3, someOps(next, 100, 10))
		j := made(t, 7)
		var faults []api.Fault
		for at, o := range l {
			for _, rule := range j.See(o, a[at]) {
				faults = append(faults, api.Fault{At: at, Rule: rule})
			}
		}
		tells(t, 7, l, a, faults...)
	}
}

// P23.4: of two lists that have not as many the lesser number is told behind all else, and no more is looked at; one of them may be empty.
func TestCount(t *testing.T) {
	next := scatter()
	l := someOps(next, 60, 8)
	b, _ := spoiledAll(next, right(5, l))
	for n := range len(l) {
		faults, _ := All(5, l[:n], b[:n])
		faults = append(faults, api.Fault{At: n, Rule: api.RuleCount})
		for _, m := range []int{n + 1, min(n+7, len(l)), len(l)} {
			tells(t, 5, l[:n], b[:m], faults...)
			tells(t, 5, l[:m], b[:n], faults...)
		}
	}
	tells(t, 1, nil, nil)
	tells(t, 1, []api.Op{}, []api.Answer{})
	tells(t, 1, nil, []api.Answer{})
	tells(t, 1, []api.Op{}, nil)
	tells(t, 1, ops(put(1, 2)), nil, api.Fault{At: 0, Rule: 6})
	tells(t, 1, []api.Op{}, answers(noKind, full), api.Fault{At: 0, Rule: 6})
	tells(t, 1, ops(get(1), get(2)), answers(yes), api.Fault{At: 0, Rule: 2}, api.Fault{At: 1, Rule: 6})
}

// P23.7: of a beginning of both lists a beginning of all faults is told: those of its operations.
func TestBeginnings(t *testing.T) {
	next := scatter()
	for range 10 {
		l := someOps(next, 80, 10)
		b, faults := spoiledAll(next, right(4, l))
		for n := range len(l) + 1 {
			begins := 0
			for begins < len(faults) && faults[begins].At < n {
				begins++
			}
			tells(t, 4, l[:n], b[:n], faults[:begins]...)
		}
	}
}

// P23.3: Pairs are all keys, rising, with their values, however they came.
func TestPairs(t *testing.T) {
	next := scatter()
	for n := range 60 {
		j := made(t, 1<<32)
		var want []api.Pair
		for i := range uint64(n) {
			want = append(want, api.Pair{Key: i * (top / 60), Value: i})
		}
		for _, p := range shuffled(next, want) {
			sees(t, j, put(p.Key, p.Value+9), ok)
			sees(t, j, put(p.Key, p.Value), ok)
		}
		for range 2 {
			if got := j.Pairs(); !slices.Equal(got, want) {
				t.Fatalf("%v, not %v", got, want)
			}
		}
		for _, p := range shuffled(next, want) {
			sees(t, j, del(p.Key), yes)
		}
		has(t, j)
	}
}

func shuffled(next func() uint64, l []api.Pair) []api.Pair {
	l = slices.Clone(l)
	for i := range l {
		k := i + among(next, len(l)-i)
		l[i], l[k] = l[k], l[i]
	}
	return l
}

// P23.7: keys rise, and there are at most most of them, whatever is shown.
func TestPairsRise(t *testing.T) {
	next := scatter()
	for _, most := range []int{1, 2, 5, 50} {
		j := made(t, most)
		for _, o := range someOps(next, 2000, 70) {
			j.See(o, ok)
			l := j.Pairs()
			rise := slices.IsSortedFunc(l, func(p, q api.Pair) int {
				if p.Key < q.Key {
					return -1
				}
				return 1
			})
			if !rise || len(l) > most {
				t.Fatalf("most %d, behind %v: %v", most, o, l)
			}
		}
	}
}

// P23.7: what is no put and no delete changes nothing, nor does a put that is refused, nor a delete of a key that is not there.
func TestChangesNothing(t *testing.T) {
	j := made(t, 3, put(5, 50), put(0, 1), put(top, 2))
	l := ops(put(6, 60), put(1, 0), del(6), del(1), del(top-1))
	for _, key := range []uint64{0, 1, 4, 5, 6, top - 1, top} {
		l = append(l, get(key), floor(key), ceil(key), rank(key), span(key, 9), span(0, key))
		for _, kind := range noKinds {
			l = append(l, api.Op{Kind: kind, Key: key, Value: 77})
		}
	}
	for _, o := range l {
		for _, a := range answers(ok, yes, pair(5, 50), pair(5, 51), num(3), full, noKind, list(0, 1, 5, 51)) {
			j.See(o, a)
			has(t, j, 0, 1, 5, 50, top, 2)
		}
	}
}

// P23.3: of no keys there are no pairs: ahead of the first one, and when all were deleted.
func TestPairsOfNoKeys(t *testing.T) {
	j := made(t, 1)
	has(t, j)
	sees(t, j, put(0, 0), ok)
	has(t, j, 0, 0)
	sees(t, j, del(0), yes)
	has(t, j)
}

// P23.3: what whoever asked writes over Pairs, or appends to them, changes neither the map nor other Pairs.
func TestPairsWrittenOver(t *testing.T) {
	j := made(t, 5, put(1, 10), put(2, 20), put(3, 30))
	p, q := j.Pairs(), j.Pairs()
	for i := range p {
		p[i] = api.Pair{Key: 9, Value: 9}
	}
	p = append(p[:1], api.Pair{Key: 8}, api.Pair{Key: 8}, api.Pair{Key: 8}, api.Pair{Key: 8})
	spare := p[:cap(p)]
	for i := range spare {
		spare[i] = api.Pair{Key: 7}
	}
	if !slices.Equal(q, pairs(1, 10, 2, 20, 3, 30)) {
		t.Error(q)
	}
	has(t, j, 1, 10, 2, 20, 3, 30)
	sees(t, j, span(0, top), list(1, 10, 2, 20, 3, 30))
	j.See(put(1, 11), ok)
	j.See(del(2), yes)
	if !slices.Equal(q, pairs(1, 10, 2, 20, 3, 30)) {
		t.Error(q)
	}
}

// R4: rules and faults that are written over change nothing that is told later.
func TestToldWrittenOver(t *testing.T) {
	j := made(t, 5, put(1, 10))
	wrong := api.Answer{Code: 1, Is: true, Key: 1, Num: 1, List: pairs(1, 1)}
	rules, more := j.See(rank(0), wrong), j.See(rank(0), wrong)
	for i := range rules[:cap(rules)] {
		rules[:cap(rules)][i] = 77
	}
	if want := []int{1, 2, 3, 4, 5}; !slices.Equal(more, want) {
		t.Error(more)
	}
	sees(t, j, rank(0), wrong, 1, 2, 3, 4, 5)
	l, a := ops(get(1), get(2)), answers(yes)
	faults, _ := All(5, l, a)
	again, _ := All(5, l, a)
	for i := range faults[:cap(faults)] {
		faults[:cap(faults)][i] = api.Fault{At: 77, Rule: 77}
	}
	if want := []api.Fault{{At: 0, Rule: 2}, {At: 1, Rule: 6}}; !slices.Equal(again, want) {
		t.Error(again)
	}
	tells(t, 5, l, a, api.Fault{At: 0, Rule: 2}, api.Fault{At: 1, Rule: 6})
}

// roomy is a list with spare room behind it, which is filled.
func roomy[T any](l []T, fill T) []T {
	room := slices.Clone(l)
	for range 4 {
		room = append(room, fill)
	}
	return room[:len(l)]
}

// R4: what is handed in is neither changed nor kept, and what is behind its length is not read.
func TestHandedIn(t *testing.T) {
	next := scatter()
	l := someOps(next, 100, 9)
	a, faults := spoiledAll(next, right(6, l))
	for i := range a {
		a[i].List = roomy(a[i].List, api.Pair{Key: 6, Value: 6})
	}
	lRoom, aRoom := roomy(l, put(7, 7)), roomy(a, yes)
	tells(t, 6, lRoom, aRoom, faults...)
	if !slices.Equal(lRoom[:cap(lRoom)][:len(l)+4], append(slices.Clone(l), put(7, 7), put(7, 7), put(7, 7), put(7, 7))) {
		t.Error("the operations, or their spare room, have changed")
	}
	for i, x := range aRoom {
		y := a[i]
		lists := slices.Equal(x.List, y.List) && slices.Equal(x.List[:len(x.List)+4][len(x.List):], pairs(6, 6, 6, 6, 6, 6, 6, 6))
		if !lists || x.Code != y.Code || x.Is != y.Is || x.Key != y.Key || x.Value != y.Value || x.Num != y.Num {
			t.Fatalf("an answer has changed: %v, not %v", x, y)
		}
	}
	j := made(t, 3, put(1, 10), put(2, 20))
	told := pairs(1, 10, 2, 20)
	sees(t, j, span(0, 9), api.Answer{List: told})
	told[0], told[1] = api.Pair{Key: 5}, api.Pair{Key: 6}
	has(t, j, 1, 10, 2, 20)
	sees(t, j, span(0, 9), list(1, 10, 2, 20))
}

// R9: judges know nothing of one another.
func TestTwoJudges(t *testing.T) {
	j, k := made(t, 1), made(t, 2)
	sees(t, j, put(1, 10), ok)
	sees(t, k, get(1), ok)
	sees(t, k, put(1, 11), ok)
	sees(t, k, put(2, 22), ok)
	sees(t, j, put(2, 20), full)
	has(t, j, 1, 10)
	has(t, k, 1, 11, 2, 22)
}

// R8, R9: judges may work at the same time, also over the same lists.
func TestAtTheSameTime(t *testing.T) {
	next := scatter()
	l := someOps(next, 200, 20)
	a, faults := spoiledAll(next, right(9, l))
	var all sync.WaitGroup
	for range 8 {
		all.Go(func() {
			if got, e := All(9, l, a); !slices.Equal(got, faults) || e != api.OK {
				t.Errorf("%v, %d, not %v", got, e, faults)
			}
		})
	}
	all.Wait()
}

// P23.1: a judge that may have very many keys makes no room for them ahead.
func TestNoRoomAhead(t *testing.T) {
	for range 2000 {
		has(t, made(t, 1<<32, put(1, 10)), 1, 10)
	}
}
