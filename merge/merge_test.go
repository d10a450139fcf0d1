package merge

import (
	"iter"
	"math"
	"slices"
	"sync"
	"testing"

	"incline/api"
	"incline/keys"
)

const top = math.MaxUint64

// thing knows where it came from, so that of two with one key it can be told which it is.
type thing struct {
	key      uint64
	list, at int
}

func (x thing) byKey() uint64 { return x.key }

// scatter gives words without a pattern, of all lengths, always the same ones.
func scatter() func() uint64 {
	x := uint64(0x9e3779b97f4a7c15)
	next := func() uint64 {
		x ^= x << 13
		x ^= x >> 7
		x ^= x << 17
		return x
	}
	return func() uint64 { return next() >> (next() % 64) }
}

// each hands over every list of at most most things of kinds.
func each[T any](kinds []T, most int, do func([]T)) {
	var grow func(l []T)
	grow = func(l []T) {
		do(slices.Clone(l))
		if len(l) == most {
			return
		}
		for _, k := range kinds {
			grow(append(slices.Clone(l), k))
		}
	}
	grow(nil)
}

// plain goes by the promise's own words: every head is looked at for each thing that is told.
func plain[T any](key func(T) uint64, lists ...[]T) []T {
	var told []T
	passed := make([]int, len(lists))
	for {
		first := -1
		for i, l := range lists {
			if passed[i] < len(l) && (first < 0 || key(l[passed[i]]) < key(lists[first][passed[first]])) {
				first = i
			}
		}
		if first < 0 {
			return told
		}
		x := lists[first][passed[first]]
		told = append(told, x)
		for i, l := range lists {
			if passed[i] < len(l) && key(l[passed[i]]) == key(x) {
				passed[i]++
			}
		}
	}
}

// seqs are lists as Merge takes them.
func seqs[T any](lists [][]T) []iter.Seq[T] {
	var l []iter.Seq[T]
	for _, list := range lists {
		l = append(l, slices.Values(list))
	}
	return l
}

// things are lists with these keys.
func things(lists ...[]uint64) [][]thing {
	var all [][]thing
	for i, ks := range lists {
		var l []thing
		for at, k := range ks {
			l = append(l, thing{k, i, at})
		}
		all = append(all, l)
	}
	return all
}

// strewn are n lists of at most most keys below below, or of any keys, if that is 0; in some the keys rise.
func strewn(n, most int, below uint64, next func() uint64) [][]uint64 {
	all := make([][]uint64, n)
	for i := range all {
		for range next() % uint64(most+1) {
			k := next()
			if below > 0 {
				k %= below
			}
			all[i] = append(all[i], k)
		}
		switch next() % 3 {
		case 0:
			slices.Sort(all[i])
		case 1:
			slices.Sort(all[i])
			all[i] = slices.Compact(all[i])
		}
	}
	return all
}

// watched is a list that knows how often it was begun, and by how many it is gone through now.
type watched struct {
	things        []thing
	begun, atHand int
}

func (w *watched) all(yield func(thing) bool) {
	w.begun++
	w.atHand++
	defer func() { w.atHand-- }()
	for _, x := range w.things {
		if !yield(x) {
			return
		}
	}
}

// watch are lists that are watched, and Merge of them.
func watch(lists [][]thing) ([]*watched, iter.Seq[thing]) {
	var ws []*watched
	var l []iter.Seq[thing]
	for _, things := range lists {
		w := &watched{things: things}
		ws = append(ws, w)
		l = append(l, w.all)
	}
	return ws, Merge(thing.byKey, l...)
}

// idle fails, if a list is at hand, or was begun more often than most.
func idle(t *testing.T, ws []*watched, most int) {
	t.Helper()
	for i, w := range ws {
		if w.atHand != 0 || w.begun > most {
			t.Fatalf("list %d of %d: %d go through it, it was begun %d times, not %d", i, len(ws), w.atHand, w.begun, most)
		}
	}
}

// begun are how often lists were begun.
func begun(ws []*watched) []int {
	var l []int
	for _, w := range ws {
		l = append(l, w.begun)
	}
	return l
}

// some are lists of things of many kinds, few and many.
func some(next func() uint64) [][][]thing {
	all := [][][]thing{
		nil,
		things(nil),
		things(nil, nil, nil),
		things([]uint64{7}),
		things([]uint64{0, top}, []uint64{top, 0}, []uint64{top}, []uint64{0}),
		things([]uint64{5, 5}, []uint64{5, 4}),
		things([]uint64{1, 3, 5}, nil, []uint64{1, 2, 3, 4, 5, 6}),
	}
	for n := 1; n < 14; n++ {
		all = append(all, things(strewn(n, 6, 0, next)...), things(strewn(n, 6, 8, next)...), things(strewn(n, 2, 3, next)...))
	}
	return all
}

// P13.1 to P13.3: the chapter's examples.
func TestExamples(t *testing.T) {
	for _, x := range []struct {
		l    [][]api.Entry
		want []api.Entry
	}{
		{[][]api.Entry{{{Key: 1, Value: 10}, {Key: 3, Value: 30}}, {{Key: 1, Value: 11}, {Key: 2, Value: 22}}}, []api.Entry{{Key: 1, Value: 10}, {Key: 2, Value: 22}, {Key: 3, Value: 30}}},
		{[][]api.Entry{{{Key: 5, Value: 1}, {Key: 5, Value: 2}}, {{Key: 5, Value: 3}, {Key: 4, Value: 4}}}, []api.Entry{{Key: 5, Value: 1}, {Key: 4, Value: 4}, {Key: 5, Value: 2}}},
		{nil, nil},
		{[][]api.Entry{{}, nil}, nil},
	} {
		if l := Entries(x.l...); !slices.Equal(l, x.want) {
			t.Errorf("Entries(%v) = %v, not %v", x.l, l, x.want)
		}
	}
	l := []api.Entry{{Key: 1, Value: 10}, {Key: 2, Gone: true}, {Key: 3, Gone: true}}
	if s := Sift(l, func(k uint64) bool { return k == 3 }); !slices.Equal(s, []api.Entry{{Key: 1, Value: 10}, {Key: 3, Gone: true}}) {
		t.Errorf("Sift(%v) = %v", l, s)
	}
	digits := Merge(lastDigit, slices.Values([]int{1, 12, 23}), slices.Values([]int{2, 33}))
	if l := slices.Collect(digits); !slices.Equal(l, []int{1, 12, 23}) {
		t.Errorf("by their last digits: %v", l)
	}
}

func lastDigit(n int) uint64 { return uint64(n % 10) }

// P13.1: every few short lists, rising or not, with keys at both ends.
func TestMergeAllShortLists(t *testing.T) {
	var lists [][]uint64
	each([]uint64{0, 1, top}, 3, func(l []uint64) { lists = append(lists, l) })
	hold := func(ks ...[]uint64) {
		l := things(ks...)
		if told, want := slices.Collect(Merge(thing.byKey, seqs(l)...)), plain(thing.byKey, l...); !slices.Equal(told, want) {
			t.Fatalf("Merge of the keys %v: %v, not %v", ks, told, want)
		}
	}
	hold()
	for _, a := range lists {
		hold(a)
		for _, b := range lists {
			hold(a, b)
			for _, c := range lists {
				hold(a, b, c)
			}
		}
	}
}

// P13.1: few lists and many, with few keys and with any.
func TestMergeLongLists(t *testing.T) {
	next := scatter()
	for n := range 70 {
		for _, below := range []uint64{0, 1, 2, 5, 100, 1 << 32} {
			ks := strewn(n, 40, below, next)
			l := things(ks...)
			if told, want := slices.Collect(Merge(thing.byKey, seqs(l)...)), plain(thing.byKey, l...); !slices.Equal(told, want) {
				t.Fatalf("Merge of the keys %v: %v, not %v", ks, told, want)
			}
		}
	}
}

// P13.1: a great many lists, and one that is as long.
func TestMergeManyLists(t *testing.T) {
	const n = 1 << 16
	next := scatter()
	var ks [][]uint64
	first := map[uint64]thing{}
	for i := range n {
		k := next() % (2 * n)
		ks = append(ks, []uint64{k})
		if _, there := first[k]; !there {
			first[k] = thing{k, i, 0}
		}
	}
	var long []uint64
	for i := range uint64(n) {
		long = append(long, 3*i)
		if _, there := first[3*i]; !there {
			first[3*i] = thing{3 * i, n, int(i)}
		}
	}
	told := 0
	before := -1
	for x := range Merge(thing.byKey, seqs(things(append(ks, long)...))...) {
		if x != first[x.key] || int(x.key) <= before {
			t.Fatalf("%v behind the key %d, the first one is %v", x, before, first[x.key])
		}
		before = int(x.key)
		told++
	}
	if told != len(first) {
		t.Errorf("%d things are told, not %d", told, len(first))
	}
}

// P13.1: no lists, lists without things, nil among them, beside such as have some.
func TestMergeNothing(t *testing.T) {
	for name, s := range map[string]iter.Seq[int]{
		"no lists":        Merge(lastDigit),
		"nil":             Merge(lastDigit, []iter.Seq[int](nil)...),
		"an empty list":   Merge(lastDigit, slices.Values([]int{})),
		"a nil slice":     Merge(lastDigit, slices.Values([]int(nil))),
		"a nil list":      Merge(lastDigit, nil),
		"several of them": Merge(lastDigit, nil, slices.Values([]int{}), nil, slices.Values([]int(nil))),
	} {
		for range 2 {
			for x := range s {
				t.Errorf("%s: %d is told", name, x)
			}
		}
	}
	few := slices.Values([]int{1, 3})
	if l := slices.Collect(Merge(lastDigit, nil, few, slices.Values([]int{}), slices.Values([]int{2, 13}), nil)); !slices.Equal(l, []int{1, 2, 3}) {
		t.Errorf("beside lists without things: %v", l)
	}
}

// P13.1: one list is told as it is, whatever its keys; the same list twice likewise.
func TestMergeOneList(t *testing.T) {
	each([]uint64{0, 1, 2, top}, 4, func(ks []uint64) {
		s := slices.Values(ks)
		for n, told := range [][]uint64{slices.Collect(Merge(itself, s)), slices.Collect(Merge(itself, s, s)), slices.Collect(Merge(itself, s, s, s))} {
			if !slices.Equal(told, ks) {
				t.Errorf("%v, %d times: %v", ks, n+1, told)
			}
		}
	})
}

func itself(k uint64) uint64 { return k }

// P13.1: things of other types, by keys that are worked out of them.
func TestMergeOtherTypes(t *testing.T) {
	size := func(s string) uint64 { return uint64(len(s)) }
	words := Merge(size, slices.Values([]string{"", "a", "ccc"}), slices.Values([]string{"x", "yy", "zzz", "wwww"}))
	if l := slices.Collect(words); !slices.Equal(l, []string{"", "a", "yy", "ccc", "wwww"}) {
		t.Errorf("by their sizes: %q", l)
	}
	downward := func(k uint64) uint64 { return top - k }
	if l := slices.Collect(Merge(downward, slices.Values([]uint64{top, 5, 0}), slices.Values([]uint64{9, 5, 1}))); !slices.Equal(l, []uint64{top, 9, 5, 1, 0}) {
		t.Errorf("by falling keys: %v", l)
	}
	a, b, c := &thing{1, 0, 0}, &thing{1, 1, 0}, &thing{2, 1, 1}
	pointed := Merge(func(p *thing) uint64 { return p.key }, slices.Values([]*thing{a}), slices.Values([]*thing{b, c}))
	if l := slices.Collect(pointed); !slices.Equal(l, []*thing{a, c}) {
		t.Errorf("pointers: %v", l)
	}
	alike := func(int) uint64 { return 7 }
	if l := slices.Collect(Merge(alike, slices.Values([]int{1}), slices.Values([]int{2, 3, 4}), slices.Values([]int{5, 6}))); !slices.Equal(l, []int{1, 3, 4}) {
		t.Errorf("all with one key: %v", l)
	}
	seven := func() uint64 { return 7 }
	three := func() uint64 { return 3 }
	ask := func(f func() uint64) uint64 { return f() }
	var answers []uint64
	for f := range Merge(ask, slices.Values([]func() uint64{seven}), slices.Values([]func() uint64{three, seven})) {
		answers = append(answers, f())
	}
	if !slices.Equal(answers, []uint64{3, 7}) {
		t.Errorf("functions by what they answer: %v", answers)
	}
}

// P13.1: a range that is left at any thing tells no more, be it by a loop or by a plain call; another one begins anew. Each goes through each list at most once, and through none when it was left.
func TestMergeLeft(t *testing.T) {
	for _, lists := range some(scatter()) {
		ws, s := watch(lists)
		want := plain(thing.byKey, lists...)
		ranges := 0
		for n := 1; n <= len(want); n++ {
			var told []thing
			for x := range s {
				if told = append(told, x); len(told) == n {
					break
				}
			}
			ranges++
			idle(t, ws, ranges)
			asked := 0
			s(func(x thing) bool {
				if asked++; asked > n || x != want[asked-1] {
					t.Fatalf("thing %d of a range that is left at %d: %v", asked, n, x)
				}
				return asked < n
			})
			ranges++
			idle(t, ws, ranges)
			if !slices.Equal(told, want[:n]) || asked != n {
				t.Fatalf("left at %d: %v and %d things, not %v", n, told, asked, want[:n])
			}
		}
		for range 2 {
			if told := slices.Collect(s); !slices.Equal(told, want) {
				t.Fatalf("a whole range behind others: %v, not %v", told, want)
			}
			ranges++
			idle(t, ws, ranges)
		}
	}
}

// P13.1: nothing is gone through any more when a range is over, whatever else is done then; and what was left by a panic is left, too.
func TestMergeOver(t *testing.T) {
	for _, lists := range some(scatter()) {
		ws, s := watch(lists)
		want := plain(thing.byKey, lists...)
		for n := range want {
			func() {
				defer func() {
					if thrown := recover(); thrown != n {
						t.Errorf("thrown: %v, not %d", thrown, n)
					}
				}()
				at := 0
				for range s {
					if at == n {
						panic(n)
					}
					at++
				}
			}()
			idle(t, ws, n+1)
		}
		before := begun(ws)
		next, stop := iter.Pull(s)
		for range want {
			next()
		}
		for range 3 {
			if x, ok := next(); ok {
				t.Fatalf("behind the last thing: %v", x)
			}
		}
		stop()
		for i, w := range ws {
			if w.atHand != 0 || w.begun > before[i]+1 {
				t.Fatalf("list %d: %d go through it, it was begun %d times in one range", i, w.atHand, w.begun-before[i])
			}
		}
	}
}

// P13.1: a range begins anew while another one is at hand, and each goes its own way; each goes through each list at most once.
func TestMergeTwoAtATime(t *testing.T) {
	for _, lists := range some(scatter()) {
		ws, s := watch(lists)
		want := plain(thing.byKey, lists...)
		ranges, at := 1, 0
		for x := range s {
			if x != want[at] {
				t.Fatalf("thing %d of a range with others in it: %v, not %v", at, x, want[at])
			}
			at++
			inner := 0
			for y := range s {
				if y != want[inner] {
					t.Fatalf("thing %d of a range in another one's thing %d: %v, not %v", inner, at, y, want[inner])
				}
				if inner++; inner > at && at%2 == 0 { // some are left, some are not
					break
				}
			}
			ranges++
		}
		idle(t, ws, ranges)
		if at != len(want) {
			t.Fatalf("%d things are told, not %d", at, len(want))
		}
		interleaved(t, s, want)
		idle(t, ws, ranges+2)
	}
}

// interleaved fails, unless two ranges of which the one is two things behind the other tell the same.
func interleaved(t *testing.T, s iter.Seq[thing], want []thing) {
	t.Helper()
	one, stopOne := iter.Pull(s)
	defer stopOne()
	two, stopTwo := iter.Pull(s)
	defer stopTwo()
	hold := func(next func() (thing, bool), at int) {
		t.Helper()
		if at < 0 {
			return
		}
		x, ok := next()
		if ok != (at < len(want)) || ok && x != want[at] {
			t.Fatalf("thing %d of two ranges at a time: %v, %v", at, x, ok)
		}
	}
	for at := range len(want) + 3 {
		hold(one, at)
		hold(two, at-2)
	}
}

// P13.1: many go over one answer at the same time.
func TestMergeByMany(t *testing.T) {
	l := things(strewn(9, 50, 60, scatter())...)
	s, want := Merge(thing.byKey, seqs(l)...), plain(thing.byKey, l...)
	var all sync.WaitGroup
	for range 8 {
		all.Go(func() {
			for range 20 {
				if told := slices.Collect(s); !slices.Equal(told, want) {
					t.Errorf("by many at a time: %v, not %v", told, want)
				}
			}
		})
	}
	all.Wait()
}

// P13.1: what Merge gives is a list itself.
func TestMergeOfMerges(t *testing.T) {
	next := scatter()
	for range 200 {
		var l [][]uint64
		for _, ks := range strewn(4, 20, 30, next) {
			slices.Sort(ks)
			l = append(l, slices.Compact(ks))
		}
		s := seqs(things(l...))
		want := plain(thing.byKey, things(l...)...)
		two := Merge(thing.byKey, Merge(thing.byKey, s[0], s[1]), Merge(thing.byKey, s[2], s[3]))
		if told := slices.Collect(two); !slices.Equal(told, want) {
			t.Fatalf("Merge of two Merges of %v: %v, not %v", l, told, want)
		}
	}
}

// P13.1, R4: the list of lists that was handed in is neither changed nor kept: a range comes later than the call.
func TestMergeKeepsNoArguments(t *testing.T) {
	room := seqs([][]int{{1, 4}, {2, 14}, {9}})
	l := room[:2]
	s := Merge(lastDigit, l...)
	for range 2 {
		if told := slices.Collect(s); !slices.Equal(told, []int{1, 2, 4}) {
			t.Errorf("%v is told", told)
		}
		if told := slices.Collect(room[2]); !slices.Equal(told, []int{9}) {
			t.Errorf("behind the lists that were handed in: %v", told)
		}
		l[0], l[1] = slices.Values([]int{5}), nil
	}
	if told := slices.Collect(l[0]); !slices.Equal(told, []int{5}) || l[1] != nil {
		t.Errorf("the lists that were handed in are changed: %v", told)
	}
}

// kinds are entries of keys, with and without a value, and tombstones.
func kinds(keys ...uint64) []api.Entry {
	var l []api.Entry
	for _, k := range keys {
		l = append(l, api.Entry{Key: k}, api.Entry{Key: k, Value: top}, api.Entry{Key: k, Gone: true})
	}
	return l
}

// strewnEntries are n lists of entries of at most most keys; if rise, then each has its keys rising.
func strewnEntries(n, most int, below uint64, rise bool, next func() uint64) [][]api.Entry {
	var all [][]api.Entry
	for _, ks := range strewn(n, most, below, next) {
		if rise {
			slices.Sort(ks)
			ks = slices.Compact(ks)
		}
		var l []api.Entry
		for _, k := range ks {
			e := api.Entry{Key: k, Value: next()}
			if next()%3 == 0 {
				e = api.Entry{Key: k, Gone: true}
			}
			l = append(l, e)
		}
		all = append(all, l)
	}
	return all
}

// P13.2: what Merge tells of these lists, and what the promise's words say, of lists of all kinds.
func TestEntries(t *testing.T) {
	hold := func(l ...[]api.Entry) {
		t.Helper()
		got := Entries(l...)
		if want := plain(keyOf, l...); !slices.Equal(got, want) {
			t.Fatalf("Entries(%v) = %v, not %v", l, got, want)
		}
		if told := slices.Collect(Merge(keyOf, seqs(l)...)); !slices.Equal(got, told) {
			t.Fatalf("Entries(%v) = %v, Merge tells %v", l, got, told)
		}
	}
	hold()
	hold(nil)
	hold([]api.Entry{}, nil, []api.Entry{})
	var lists [][]api.Entry
	each(kinds(0, top), 3, func(l []api.Entry) { lists = append(lists, l) })
	for _, a := range lists {
		hold(a)
		for _, b := range lists {
			hold(a, b)
		}
	}
	next := scatter()
	for n := range 40 {
		for _, below := range []uint64{0, 3, 50} {
			hold(strewnEntries(n, 30, below, false, next)...)
			hold(strewnEntries(n, 30, below, true, next)...)
		}
	}
}

// risen hands over rows of lists whose keys rise: all short ones of two, and longer ones of up to nine.
func risen(do func(l ...[]api.Entry)) {
	var lists [][]api.Entry
	each(kinds(0, 1, top), 3, func(l []api.Entry) {
		if keys.Check(l) == api.OK {
			lists = append(lists, l)
		}
	})
	for i, a := range lists {
		for k, b := range lists {
			do(a, b)
			do(a, b, lists[(7*i+5*k)%len(lists)])
		}
	}
	next := scatter()
	for n := range 10 {
		for _, below := range []uint64{0, 4, 20, 100} {
			for range 10 {
				do(strewnEntries(n, 25, below, true, next)...)
			}
		}
	}
}

// P13.4
func TestOnce(t *testing.T) {
	risen(func(l ...[]api.Entry) {
		got := Entries(l...)
		first := map[uint64]api.Entry{}
		sum, longest := 0, 0
		for _, list := range l {
			for _, e := range list {
				if _, there := first[e.Key]; !there {
					first[e.Key] = e
				}
			}
			sum += len(list)
			longest = max(longest, len(list))
		}
		if keys.Check(got) != api.OK || len(got) != len(first) || len(got) > sum || len(got) < longest {
			t.Fatalf("Entries(%v) = %v: do not rise, or are too many or too few", l, got)
		}
		for _, e := range got {
			if was, there := first[e.Key]; !there || e != was {
				t.Fatalf("Entries(%v) = %v: %v is not the first list's %v", l, got, e, was)
			}
		}
	})
}

// P13.5
func TestInGroups(t *testing.T) {
	risen(func(l ...[]api.Entry) {
		all := Entries(l...)
		for i := range len(l) + 1 {
			if got := Entries(append([][]api.Entry{Entries(l[:i]...)}, l[i:]...)...); !slices.Equal(got, all) {
				t.Fatalf("of %v the first %d ahead: %v, not %v", l, i, got, all)
			}
			if got := Entries(append(slices.Clone(l[:i]), Entries(l[i:]...))...); !slices.Equal(got, all) {
				t.Fatalf("of %v those behind the first %d ahead: %v, not %v", l, i, got, all)
			}
			if got := Entries(slices.Insert(slices.Clone(l), i, nil, []api.Entry{})...); !slices.Equal(got, all) {
				t.Fatalf("%v with lists without entries at %d: %v, not %v", l, i, got, all)
			}
		}
		for _, list := range l {
			if one, two := Entries(list), Entries(list, list); !slices.Equal(one, list) || !slices.Equal(two, list) {
				t.Fatalf("%v, once and twice: %v, %v", list, one, two)
			}
		}
		if got := Entries(append(slices.Clone(l), l...)...); !slices.Equal(got, all) {
			t.Fatalf("%v, all twice: %v, not %v", l, got, all)
		}
	})
}

func never(uint64) bool  { return false }
func always(uint64) bool { return true }

// lives are ways in which keys are live.
func lives() []func(uint64) bool {
	return []func(uint64) bool{
		never, always,
		func(k uint64) bool { return k == 0 },
		func(k uint64) bool { return k == top },
		func(k uint64) bool { return k != 1 },
		func(k uint64) bool { return k%3 == 1 },
		func(k uint64) bool { return k > 1<<32 },
	}
}

// plainSift goes by the promise's words, from the back to the front, since the order is the list's.
func plainSift(l []api.Entry, live func(uint64) bool) []api.Entry {
	kept := slices.Clone(l)
	for i := len(l) - 1; i >= 0; i-- {
		if l[i].Gone && !live(l[i].Key) {
			kept = slices.Delete(kept, i, i+1)
		}
	}
	return kept
}

// P13.3: lists of all kinds, rising or not, with a key more than once.
func TestSift(t *testing.T) {
	for _, live := range lives() {
		if l := Sift(nil, live); len(l) != 0 {
			t.Errorf("Sift of nil: %v", l)
		}
		if l := Sift([]api.Entry{}, live); len(l) != 0 {
			t.Errorf("Sift of no entries: %v", l)
		}
	}
	each(append(kinds(0, 1, top), api.Entry{Key: 1, Value: 5, Gone: true}), 4, func(l []api.Entry) {
		for i, live := range lives() {
			if got, want := Sift(l, live), plainSift(l, live); !slices.Equal(got, want) {
				t.Fatalf("Sift(%v), live %d: %v, not %v", l, i, got, want)
			}
		}
	})
	next := scatter()
	for _, l := range strewnEntries(200, 300, 0, false, next) {
		for i, live := range lives() {
			if got, want := Sift(l, live), plainSift(l, live); !slices.Equal(got, want) {
				t.Fatalf("Sift(%v), live %d: %v, not %v", l, i, got, want)
			}
		}
	}
}

// P13.6
func TestSifted(t *testing.T) {
	risen(func(l ...[]api.Entry) {
		all := Entries(l...)
		for i, live := range lives() {
			once := Sift(all, live)
			if twice := Sift(once, live); !slices.Equal(twice, once) {
				t.Fatalf("%v, live %d, sifted again: %v", once, i, twice)
			}
		}
		if got := Sift(all, always); !slices.Equal(got, all) {
			t.Fatalf("%v, all live: %v", all, got)
		}
		bare := Sift(all, never)
		if slices.ContainsFunc(bare, func(e api.Entry) bool { return e.Gone }) || len(bare) != keys.Live(all) {
			t.Fatalf("%v, none live: %v", all, bare)
		}
		apart(t, all)
	})
}

// apart fails, unless two lists with unlike keys, those of one list, sifted and brought together, are these brought together and sifted.
func apart(t *testing.T, all []api.Entry) {
	t.Helper()
	for _, part := range []uint64{2, 3} {
		var a, b []api.Entry
		for _, e := range all {
			if e.Key%part == 0 {
				a = append(a, e)
			} else {
				b = append(b, e)
			}
		}
		for i, live := range lives() {
			if one, two := Sift(Entries(a, b), live), Entries(Sift(a, live), Sift(b, live)); !slices.Equal(one, two) {
				t.Fatalf("%v and %v, live %d: %v and %v", a, b, i, one, two)
			}
		}
	}
}

// spoil writes into all of a list, its spare room too.
func spoil(l []api.Entry) {
	l = l[:cap(l)]
	for i := range l {
		l[i] = api.Entry{Key: 77 + uint64(i), Value: 7}
	}
}

// R4: nothing that was handed in is changed, nor what is behind it read; what comes out is the caller's, its spare room too.
func TestMemory(t *testing.T) {
	calls := map[string]func(l [][]api.Entry) []api.Entry{
		"Entries":       func(l [][]api.Entry) []api.Entry { return Entries(l...) },
		"of the first":  func(l [][]api.Entry) []api.Entry { return Entries(l[0]) },
		"Sift, always":  func(l [][]api.Entry) []api.Entry { return Sift(l[0], always) },
		"Sift, never":   func(l [][]api.Entry) []api.Entry { return Sift(l[0], never) },
		"Sift, at odds": func(l [][]api.Entry) []api.Entry { return Sift(l[0], func(k uint64) bool { return k%2 == 1 }) },
	}
	next := scatter()
	for name, call := range calls {
		for n := 1; n < 30; n++ {
			l := strewnEntries(n, 12, 40, true, next)
			want := call(l)
			var rooms, were, roomy [][]api.Entry
			for _, list := range l {
				room := append(slices.Clone(list), api.Entry{}, api.Entry{Key: 1, Gone: true})
				rooms, were, roomy = append(rooms, room), append(were, slices.Clone(room)), append(roomy, room[:len(list)])
			}
			a, b := call(roomy), call(roomy)
			if !slices.Equal(a, want) || !slices.Equal(b, want) {
				t.Fatalf("%s: what is behind the lists is read: %v and %v, not %v", name, a, b, want)
			}
			spoil(a)
			if !slices.Equal(b, want) || !slices.EqualFunc(rooms, were, slices.Equal[[]api.Entry]) {
				t.Fatalf("%s: an answer shares memory, or lists that were handed in are changed", name)
			}
			for _, room := range rooms {
				spoil(room)
			}
			if !slices.Equal(b, want) {
				t.Fatalf("%s: an answer shares memory with what was handed in", name)
			}
		}
	}
}

// The heap holds what it says, however heads come and go: the first of all is in front.
func TestHeap(t *testing.T) {
	next := scatter()
	for n := range 60 {
		h := heapOf(itself, strewn(n, 3, 9, next))
		for len(h.heads) > 0 {
			for i := range h.heads {
				if up := (i - 1) / 2; i > 0 && h.heads[i].ahead(h.heads[up]) {
					t.Fatalf("place %d is ahead of %d: %v", i, up, h.heads)
				}
			}
			if next()%4 == 0 {
				h.pop()
			} else {
				h.next()
			}
		}
		if x, ok := h.next(); x != 0 || ok {
			t.Errorf("of a heap without heads: %d, %v", x, ok)
		}
	}
}
