package classes

import (
	"maps"
	"math"
	"math/big"
	"math/bits"
	"slices"
	"testing"

	"incline/api"
	"incline/keys"
	"incline/run"
)

const top = math.MaxUint64

var (
	wrongEps  = []int{math.MinInt, -64, -2, -1, 0, 1, 65, 66, 1<<32 + 2, math.MaxInt}
	wrongBufs = []int{math.MinInt, math.MinInt + 1, -1 << 32, -2, -1, 0, 1<<32 + 1, 1<<32 + 2, 1 << 33, math.MaxInt - 1, math.MaxInt}
)

// scatter gives words without a pattern, of all lengths, always the same ones.
func scatter() func() uint64 {
	x := uint64(0x9e3779b97f4a7c15)
	next := func() uint64 {
		x ^= x << 13
		x ^= x >> 7
		x ^= x << 17
		return x
	}
	return func() uint64 { return next() >> (next() % 64) }
}

// each hands over every row of at most most things of kinds.
func each[T any](kinds []T, most int, do func([]T)) {
	var grow func(l []T)
	grow = func(l []T) {
		do(slices.Clone(l))
		if len(l) == most {
			return
		}
		for _, k := range kinds {
			grow(append(slices.Clone(l), k))
		}
	}
	grow(nil)
}

func put(key, value uint64) api.Entry { return api.Entry{Key: key, Value: value} }

func gone(key uint64) api.Entry { return api.Entry{Key: key, Gone: true} }

func list(l ...api.Entry) []api.Entry { return l }

// fresh are n entries with rising keys from first on.
func fresh(first uint64, n int) []api.Entry {
	var l []api.Entry
	for i := range uint64(n) {
		l = append(l, put(first+i, first+i+1))
	}
	return l
}

// dead are n tombstones with rising keys from first on.
func dead(first uint64, n int) []api.Entry {
	var l []api.Entry
	for i := range uint64(n) {
		l = append(l, gone(first+i))
	}
	return l
}

// strewn are n entries with rising keys below below (or any, if that is 0), of which so many of eight are tombstones.
func strewn(n int, below, tombs uint64, next func() uint64) []api.Entry {
	all := map[uint64]api.Entry{}
	for len(all) < n {
		k := next()
		if below > 0 {
			k %= below
		} else if next()%8 == 0 {
			k = []uint64{0, 1, top - 1, top}[next()%4]
		}
		if next()%8 < tombs {
			all[k] = gone(k)
		} else {
			all[k] = put(k, next())
		}
	}
	return sorted(all)
}

func sorted(all map[uint64]api.Entry) []api.Entry {
	var l []api.Entry
	for _, k := range slices.Sorted(maps.Keys(all)) {
		l = append(l, all[k])
	}
	return l
}

// plain is what classes are by the promises' own words: a list of entries for each class, gone through one by one.
type plain struct {
	eps, buf        int
	lists           [api.MaxClass][]api.Entry
	builds, written int
}

// first is the entry of a key of the least class from from on that has one.
func (p *plain) first(from int, key uint64) (api.Entry, bool) {
	for _, l := range p.lists[from:] {
		for _, e := range l {
			if e.Key == key {
				return e, true
			}
		}
	}
	return api.Entry{}, false
}

func (p *plain) liveAbove(class int, key uint64) bool {
	e, there := p.first(class+1, key)
	return there && !e.Gone
}

func (p *plain) take(l []api.Entry) (api.Built, api.Errno) {
	if keys.Check(l) != api.OK {
		return api.Built{}, api.ErrClassesOrder
	}
	if len(l) != p.buf {
		return api.Built{}, api.ErrClassesFew
	}
	j := 0
	for j < api.MaxClass-1 && len(p.lists[j]) > 0 {
		j++
	}
	took, newest := 0, map[uint64]api.Entry{}
	for class := j; class >= -1; class-- {
		older := l
		if class >= 0 {
			older = p.lists[class]
			p.lists[class] = nil
		}
		for _, e := range older {
			took++
			newest[e.Key] = e
		}
	}
	maps.DeleteFunc(newest, func(k uint64, e api.Entry) bool { return e.Gone && !p.liveAbove(j, k) })
	p.lists[j] = sorted(newest)
	if len(newest) > 0 {
		p.builds++
		p.written += len(newest)
	}
	return api.Built{Class: j, Took: took, Kept: len(newest)}, api.OK
}

func (p *plain) sizes() []int {
	var l []int
	for class := range p.lists {
		if n := len(p.lists[class]); n > 0 {
			l = append(l, make([]int, class-len(l))...)
			l = append(l, n)
		}
	}
	return l
}

// clone is good as it is: a list is never written into once it is there.
func (p *plain) clone() *plain {
	other := *p
	return &other
}

// ask are the keys about all that are there, and those at both ends.
func (p *plain) ask() []uint64 {
	l := []uint64{0, 1, 2, 1 << 63, top - 1, top}
	for _, list := range p.lists {
		for _, e := range list {
			l = append(l, e.Key-1, e.Key, e.Key+1)
		}
	}
	slices.Sort(l)
	return slices.Compact(l)
}

// live is the plain map: all live keys with their values.
func (p *plain) live() map[uint64]uint64 {
	m := map[uint64]uint64{}
	for _, k := range p.ask() {
		if e, there := p.first(0, k); there && !e.Gone {
			m[k] = e.Value
		}
	}
	return m
}

// made is New's, with a plain one beside it.
func made(t *testing.T, eps, buf int) (*Classes, *plain) {
	t.Helper()
	c, err := New(eps, buf)
	if c == nil || err != api.OK {
		t.Fatalf("New(%d, %d): %v, %d", eps, buf, c, err)
	}
	return c, &plain{eps: eps, buf: buf}
}

// runOf is a run of entries; nil of none.
func runOf(t *testing.T, eps int, l ...api.Entry) *run.Run {
	t.Helper()
	if len(l) == 0 {
		return nil
	}
	r, err := run.New(l, eps)
	if err != api.OK {
		t.Fatalf("a run of %v, eps %d: %d", l, eps, err)
	}
	return r
}

// runsOf are runs of lists; nil of those without entries.
func runsOf(t *testing.T, eps int, lists ...[]api.Entry) []*run.Run {
	t.Helper()
	var rs []*run.Run
	for _, l := range lists {
		rs = append(rs, runOf(t, eps, l...))
	}
	return rs
}

// laid is Of's of runs of lists that may be, with a plain one beside it.
func laid(t *testing.T, eps, buf int, lists ...[]api.Entry) (*Classes, *plain) {
	t.Helper()
	c, err := Of(eps, buf, runsOf(t, eps, lists...))
	if c == nil || err != api.OK {
		t.Fatalf("Of(%d, %d, %v): %v, %d", eps, buf, lists, c, err)
	}
	p := &plain{eps: eps, buf: buf}
	copy(p.lists[:], lists)
	return c, p
}

// hold fails, unless classes tell what the plain ones do, whatever they are asked.
func hold(t *testing.T, c *Classes, p *plain) {
	t.Helper()
	sizes := p.sizes()
	if got := c.Sizes(); !slices.Equal(got, sizes) {
		t.Fatalf("Sizes: %v, not %v", got, sizes)
	}
	if c.Builds() != p.builds || c.Written() != p.written {
		t.Fatalf("Builds %d, Written %d: not %d, %d", c.Builds(), c.Written(), p.builds, p.written)
	}
	rs := c.Runs()
	if len(rs) != len(sizes) {
		t.Fatalf("%d Runs, not %d", len(rs), len(sizes))
	}
	for class, r := range rs {
		holdRun(t, class, r, p)
	}
	for _, k := range p.ask() {
		is, there := p.first(0, k)
		if e, ok := c.Get(k); e != is || ok != there {
			t.Fatalf("Get(%d): %v, %v, not %v, %v; %v", k, e, ok, is, there, p.lists)
		}
	}
}

// holdRun fails, unless the run of a class is that of the plain one's entries: New's, with its levels.
func holdRun(t *testing.T, class int, r *run.Run, p *plain) {
	t.Helper()
	want := p.lists[class]
	if (r == nil) != (len(want) == 0) {
		t.Fatalf("class %d: the run %v of %v", class, r, want)
	}
	if r == nil {
		return
	}
	if l := r.List(); !slices.Equal(l, want) || r.Eps() != p.eps {
		t.Fatalf("class %d: %v, eps %d, not %v, %d", class, l, r.Eps(), want, p.eps)
	}
	if ls := runOf(t, p.eps, want...).Levels(); !slices.EqualFunc(r.Levels(), ls, slices.Equal) {
		t.Fatalf("class %d: levels %v, not %v", class, r.Levels(), ls)
	}
}

// takes fails, unless classes and the plain ones answer a Take alike.
func takes(t *testing.T, c *Classes, p *plain, l []api.Entry) api.Built {
	t.Helper()
	ahead := p.lists
	want, wantErr := p.take(l)
	if got, err := c.Take(l); got != want || err != wantErr {
		t.Fatalf("Take(%v) of %v: %v, %d, not %v, %d", l, ahead, got, err, want, wantErr)
	}
	return want
}

// keeps fails, unless what follows of a Take holds: nothing is lost, little is written, and what is there may be there.
func keeps(t *testing.T, c *Classes, p *plain, l []api.Entry) {
	t.Helper()
	want := p.live()
	for _, e := range l {
		delete(want, e.Key)
		if !e.Gone {
			want[e.Key] = e.Value
		}
	}
	ask := append(p.ask(), keys.Of(l)...)
	ahead := c.Runs()
	b := takes(t, c, p, l)
	for _, k := range ask { // P15.6
		e, there := c.Get(k)
		if v, is := want[k]; is != (there && !e.Gone) || is && v != e.Value {
			t.Fatalf("behind Take(%v) %d is %v, %v: %d, %v is wanted", l, k, e, there, v, is)
		}
	}
	little(t, c, b, ahead)
	may(t, c)
}

// little is P15.7.
func little(t *testing.T, c *Classes, b api.Built, ahead []*run.Run) {
	t.Helper()
	all := len(ahead) == api.MaxClass && !slices.Contains(ahead, nil)
	if !all && b.Took > c.buf<<b.Class || b.Kept > b.Took {
		t.Fatalf("%v, with a buf of %d", b, c.buf)
	}
	if b.Class < len(ahead) {
		if rs := c.Runs(); !slices.Equal(rs[min(len(rs), b.Class+1):], ahead[b.Class+1:]) {
			t.Fatalf("%v: the runs above it were %v, and are %v", b, ahead, rs)
		}
	}
}

// may is P15.8: Of takes what Runs tells, and what it takes is right in itself.
func may(t *testing.T, c *Classes) {
	t.Helper()
	rs := c.Runs()
	for class, r := range rs {
		if r == nil {
			continue
		}
		if r.Len() == 0 || r.Len() > Most(c.buf, class) {
			t.Fatalf("class %d has %d entries, with a buf of %d", class, r.Len(), c.buf)
		}
		for _, e := range r.List() {
			if e.Gone && !livesIn(rs[class+1:], e.Key) {
				t.Fatalf("class %d has a tombstone of %d, which is not live above", class, e.Key)
			}
		}
	}
	other, err := Of(c.eps, c.buf, rs)
	if err != api.OK || !slices.Equal(other.Runs(), rs) || other.Builds() != 0 || other.Written() != 0 {
		t.Fatalf("Of what Runs tells: %v, %d", other, err)
	}
}

func livesIn(rs []*run.Run, key uint64) bool {
	for _, r := range rs {
		if r == nil {
			continue
		}
		for _, e := range r.List() {
			if e.Key == key {
				return !e.Gone
			}
		}
	}
	return false
}

// P15.1 to P15.5: the chapter's examples.
func TestExamples(t *testing.T) {
	c, p := made(t, 2, 2)
	for i, x := range []struct {
		l     []api.Entry
		want  api.Built
		sizes []int
	}{
		{list(put(1, 10), put(2, 20)), api.Built{Class: 0, Took: 2, Kept: 2}, []int{2}},
		{list(gone(1), put(3, 30)), api.Built{Class: 1, Took: 4, Kept: 2}, []int{0, 2}},
		{list(gone(2), put(4, 40)), api.Built{Class: 0, Took: 2, Kept: 2}, []int{2, 2}},
		{list(gone(2), gone(4)), api.Built{Class: 2, Took: 6, Kept: 1}, []int{0, 0, 1}},
		{list(gone(9), gone(10)), api.Built{Class: 0, Took: 2, Kept: 0}, []int{0, 0, 1}},
	} {
		b := takes(t, c, p, x.l)
		if b != x.want || !slices.Equal(c.Sizes(), x.sizes) {
			t.Errorf("%d: %v, Sizes %v", i, b, c.Sizes())
		}
		hold(t, c, p)
		e, there := c.Get(2)
		if want := []api.Entry{put(2, 20), put(2, 20), gone(2), {}, {}}[i]; e != want || there != (i < 3) {
			t.Errorf("%d: Get(2): %v, %v", i, e, there)
		}
		if e, there := c.Get(1); i > 0 && (there || e != api.Entry{}) {
			t.Errorf("%d: Get(1): %v, %v", i, e, there)
		}
		if builds, written := []int{1, 2, 3, 4, 4}[i], []int{2, 4, 6, 7, 7}[i]; c.Builds() != builds || c.Written() != written {
			t.Errorf("%d: Builds %d, Written %d", i, c.Builds(), c.Written())
		}
	}
	if b, err := c.Take(list(put(5, 1))); b != (api.Built{}) || err != api.ErrClassesFew {
		t.Errorf("one entry: %v, %d", b, err)
	}
	if b, err := c.Take(list(put(5, 1), put(5, 2))); b != (api.Built{}) || err != api.ErrClassesOrder {
		t.Errorf("two of one key: %v, %d", b, err)
	}
	for _, x := range [][3]int{{2, 0, 2}, {2, 5, 64}, {2, 39, api.MaxRun}, {0, 1, 0}, {2, 40, 0}} {
		if n := Most(x[0], x[1]); n != x[2] {
			t.Errorf("Most(%d, %d): %d", x[0], x[1], n)
		}
	}
}

// P15.1: held against whole numbers without a bound.
func TestMost(t *testing.T) {
	wrongClasses := []int{math.MinInt, math.MinInt + 1, -64, -40, -2, -1, 40, 41, 63, 64, 1 << 32, math.MaxInt}
	for _, buf := range append([]int{1, 2, 3, 1 << 31, 1<<32 - 1, 1 << 32}, wrongBufs...) {
		for _, class := range wrongClasses {
			if n := Most(buf, class); n != 0 {
				t.Errorf("Most(%d, %d): %d", buf, class, n)
			}
		}
	}
	for class := -3; class < 45; class++ {
		for _, buf := range wrongBufs {
			if n := Most(buf, class); n != 0 {
				t.Errorf("Most(%d, %d): %d", buf, class, n)
			}
		}
	}
	most := big.NewInt(api.MaxRun)
	for class := range api.MaxClass {
		bufs := []int{1, 2, 3, 5, 1000, 1<<31 - 1, 1 << 31, 1<<31 + 1, 1<<32 - 1, 1 << 32}
		if class <= 32 {
			edge := 1 << (32 - class)
			bufs = append(bufs, max(edge-1, 1), edge, min(edge+1, api.MaxRun))
		}
		for _, buf := range bufs {
			want := new(big.Int).Lsh(big.NewInt(int64(buf)), uint(class))
			if want.Cmp(most) > 0 {
				want = most
			}
			if n := Most(buf, class); int64(n) != want.Int64() {
				t.Errorf("Most(%d, %d): %d, not %v", buf, class, n, want)
			}
		}
	}
}

// P15.2: New, and Of without runs, of what may not be, and of what may.
func TestNew(t *testing.T) {
	refused := func(eps, buf int) {
		t.Helper()
		if c, err := New(eps, buf); c != nil || err != api.ErrArg {
			t.Errorf("New(%d, %d): %v, %d", eps, buf, c, err)
		}
		for _, l := range [][]*run.Run{nil, {}, {nil, nil}, {runOf(t, 2, put(1, 1))}, {runOf(t, 3, gone(1))}} {
			if c, err := Of(eps, buf, l); c != nil || err != api.ErrArg {
				t.Errorf("Of(%d, %d, %v): %v, %d", eps, buf, l, c, err)
			}
		}
	}
	for _, eps := range wrongEps {
		for _, buf := range append([]int{1, 2, 1 << 32}, wrongBufs...) {
			refused(eps, buf)
		}
	}
	for _, eps := range []int{2, 3, 63, 64} {
		for _, buf := range wrongBufs {
			refused(eps, buf)
		}
		for _, buf := range []int{1, 2, 3, 1 << 20, 1<<32 - 1, 1 << 32} {
			c, p := made(t, eps, buf)
			hold(t, c, p)
			c, p = laid(t, eps, buf)
			hold(t, c, p)
		}
	}
}

// P15.2: Of runs that may be there, with nil among them and behind them.
func TestOf(t *testing.T) {
	one, two := list(put(1, 5)), list(put(1, 6), put(2, 7))
	for i, lists := range [][][]api.Entry{
		nil,
		{nil, nil, nil},
		make([][]api.Entry, 90),
		{one},
		{two},
		{nil, two, nil},
		{one, nil, two, nil, nil},
		{list(gone(1)), one},
		{list(gone(1)), nil, nil, one},
		{list(gone(1), gone(2)), two},
		{list(gone(1), gone(2)), list(put(2, 8)), one},
		{list(gone(1)), list(put(1, 0)), list(gone(1)), one}, // each is over one that is live
		{list(put(3, 3)), list(gone(1), put(3, 2)), nil, one},
		{fresh(0, 2), fresh(0, 4), fresh(0, 8), fresh(0, 16)},
		{nil, dead(0, 4), nil, fresh(0, 5)},
		append(make([][]api.Entry, 39), two),
		append(append(make([][]api.Entry, 39), two), nil, nil),
		append(append([][]api.Entry{list(gone(2))}, make([][]api.Entry, 38)...), two),
	} {
		c, p := laid(t, 2, 2, lists...)
		hold(t, c, p)
		may(t, c)
		if n := len(c.Runs()); n > 0 && c.Runs()[n-1] == nil {
			t.Errorf("%d: the last of Runs is nil", i)
		}
		for _, l := range [][]api.Entry{list(gone(1), gone(2)), fresh(1, 2), list(gone(1), put(3, 9)), dead(7, 2)} {
			keeps(t, c, p, l)
			hold(t, c, p)
		}
	}
}

// P15.2: Of runs that may not be there, be they the first ones or among others.
func TestOfRefused(t *testing.T) {
	none, err := run.New(nil, 2)
	if err != api.OK {
		t.Fatal(err)
	}
	nobody := runsOf(t, 2, nil, nil)
	at := func(i int, r *run.Run) []*run.Run {
		l := make([]*run.Run, i+1)
		l[i] = r
		return l
	}
	one := runOf(t, 2, put(1, 1))
	for i, x := range []struct {
		buf  int
		l    []*run.Run
		want api.Errno
	}{
		{2, at(0, runOf(t, 3, put(1, 1))), api.ErrClassesOrder},
		{2, at(5, runOf(t, 64, put(1, 1))), api.ErrClassesOrder},
		{2, append(at(0, one), runOf(t, 3, put(1, 1))), api.ErrClassesOrder},
		{2, at(0, none), api.ErrClassesOrder},
		{2, at(39, none), api.ErrClassesOrder},
		{2, append(at(3, one), none), api.ErrClassesOrder},
		{2, at(0, runOf(t, 2, fresh(1, 3)...)), api.ErrClassesOrder},
		{1, at(1, runOf(t, 2, fresh(1, 3)...)), api.ErrClassesOrder},
		{2, at(3, runOf(t, 2, fresh(1, 17)...)), api.ErrClassesOrder},
		{2, append(at(2, runOf(t, 2, fresh(1, 9)...)), one), api.ErrClassesOrder},
		{2, at(0, runOf(t, 2, gone(1))), api.ErrClassesOrder},
		{2, at(39, runOf(t, 2, gone(1))), api.ErrClassesOrder},
		{2, at(39, runOf(t, 2, put(0, 1), gone(1), put(2, 2))), api.ErrClassesOrder},
		{2, runsOf(t, 2, list(put(1, 1)), list(gone(1))), api.ErrClassesOrder}, // live below it alone
		{2, runsOf(t, 2, list(gone(1)), list(put(0, 1), put(2, 1))), api.ErrClassesOrder},
		{2, runsOf(t, 2, list(gone(1), gone(2)), list(put(1, 1))), api.ErrClassesOrder},
		{2, runsOf(t, 2, list(gone(1), gone(2)), list(put(2, 1))), api.ErrClassesOrder},
		{2, runsOf(t, 2, list(gone(1)), list(gone(1)), list(put(1, 1))), api.ErrClassesOrder}, // the nearest above is a tombstone
		{2, runsOf(t, 2, list(gone(1)), nil, list(gone(1)), nil, list(put(1, 1))), api.ErrClassesOrder},
		{2, at(40, one), api.ErrArg},
		{2, at(89, one), api.ErrArg},
		{2, at(40, none), api.ErrArg},
		{2, append(at(40, one), nobody...), api.ErrArg},
		{2, append(append(at(0, none), make([]*run.Run, 39)...), one), api.ErrArg}, // ahead of what is wrong with a run
		{2, append(append(at(0, runOf(t, 2, gone(1))), make([]*run.Run, 60)...), one), api.ErrArg},
		{2, append(at(39, runOf(t, 3, put(1, 1))), one), api.ErrArg},
	} {
		if c, err := Of(2, x.buf, x.l); c != nil || err != x.want {
			t.Errorf("%d: %v, %d, not %d", i, c, err, x.want)
		}
	}
}

// P15.2: each class has runs of as many entries as may be, and of no more.
func TestOfMost(t *testing.T) {
	for buf := 1; buf < 8; buf++ {
		for class := range 9 {
			lists := make([][]api.Entry, class+1)
			n := Most(buf, class)
			lists[class] = fresh(7, n)
			c, p := laid(t, 5, buf, lists...)
			hold(t, c, p)
			lists[class] = fresh(7, n+1)
			if c, err := Of(5, buf, runsOf(t, 5, lists...)); c != nil || err != api.ErrClassesOrder {
				t.Errorf("%d entries of class %d, with a buf of %d: %v, %d", n+1, class, buf, c, err)
			}
		}
	}
}

// P15.2: Of any runs whatever, held to the promise's own words.
func TestOfAny(t *testing.T) {
	next := scatter()
	count := map[api.Errno]int{}
	for range 4000 {
		var lists [][]api.Entry
		for class := range 1 + int(next()%5) {
			n := int(next() % uint64(1+min(6, 2<<class)))
			if next()%20 == 0 {
				n++
			}
			lists = append(lists, strewn(n, 8, next()%4, next))
		}
		want, p := api.OK, &plain{eps: 2, buf: 2}
		copy(p.lists[:], lists)
		for class, l := range lists {
			for _, e := range l {
				if len(l) > 2<<class || e.Gone && !p.liveAbove(class, e.Key) {
					want = api.ErrClassesOrder
				}
			}
		}
		c, err := Of(2, 2, runsOf(t, 2, lists...))
		if err != want || (c == nil) != (err != api.OK) {
			t.Fatalf("Of %v: %v, %d, not %d", lists, c, err, want)
		}
		count[err]++
		if c != nil {
			hold(t, c, p)
		}
	}
	if min(count[api.OK], count[api.ErrClassesOrder]) < 500 {
		t.Errorf("taken and refused: %v", count)
	}
}

// P15.3, R2: what is refused, by which error, and that nothing has changed.
func TestTakeRefused(t *testing.T) {
	c, p := made(t, 2, 3)
	check := func() {
		t.Helper()
		for i, x := range []struct {
			l    []api.Entry
			want api.Errno
		}{
			{nil, api.ErrClassesFew},
			{list(), api.ErrClassesFew},
			{fresh(1, 1), api.ErrClassesFew},
			{fresh(1, 2), api.ErrClassesFew},
			{fresh(1, 4), api.ErrClassesFew},
			{fresh(1, 1000), api.ErrClassesFew},
			{dead(1, 2), api.ErrClassesFew},
			{list(put(1, 1), put(1, 2), put(2, 3)), api.ErrClassesOrder},
			{list(put(1, 1), put(3, 2), put(2, 3)), api.ErrClassesOrder},
			{list(put(top, 1), put(0, 2), put(1, 3)), api.ErrClassesOrder},
			{list(put(1, 1), gone(2), api.Entry{Key: 3, Value: 1, Gone: true}), api.ErrClassesOrder},
			{list(api.Entry{Key: 1, Value: top, Gone: true}, put(2, 1), put(3, 1)), api.ErrClassesOrder},
			{list(put(2, 1), put(1, 1)), api.ErrClassesOrder}, // and too few
			{list(api.Entry{Key: 1, Value: 1, Gone: true}), api.ErrClassesOrder},
			{list(put(1, 1), put(2, 1), put(3, 1), put(3, 1)), api.ErrClassesOrder}, // and too many
		} {
			if b, err := c.Take(x.l); b != (api.Built{}) || err != x.want {
				t.Fatalf("%d: %v, %d, not %d", i, b, err, x.want)
			}
		}
		hold(t, c, p)
	}
	check()
	for i := range 8 {
		takes(t, c, p, fresh(uint64(10*i), 3))
		check()
	}
	b, _ := made(t, 2, api.MaxRun)
	if x, err := b.Take(fresh(0, 100)); x != (api.Built{}) || err != api.ErrClassesFew {
		t.Errorf("a buf of MaxRun: %v, %d", x, err)
	}
}

// P15.3: a Take that is kept whole, in part, and not at all, in the first class and in one above others.
func TestKept(t *testing.T) {
	older := fresh(0, 6)
	for i, x := range []struct {
		lists [][]api.Entry
		l     []api.Entry
		want  api.Built
		is    []int
	}{
		{nil, fresh(0, 3), api.Built{Class: 0, Took: 3, Kept: 3}, []int{3}},
		{nil, list(gone(0), put(1, 1), gone(2)), api.Built{Class: 0, Took: 3, Kept: 1}, []int{1}},
		{nil, dead(0, 3), api.Built{Class: 0, Took: 3}, nil},
		{[][]api.Entry{nil, older}, dead(0, 3), api.Built{Class: 0, Took: 3, Kept: 3}, []int{3, 6}},
		{[][]api.Entry{nil, older}, dead(4, 3), api.Built{Class: 0, Took: 3, Kept: 2}, []int{2, 6}},
		{[][]api.Entry{nil, older}, dead(6, 3), api.Built{Class: 0, Took: 3}, []int{0, 6}},
		{[][]api.Entry{fresh(0, 3)}, dead(0, 3), api.Built{Class: 1, Took: 6}, nil},
		{[][]api.Entry{fresh(0, 3), nil, older}, dead(0, 3), api.Built{Class: 1, Took: 6, Kept: 3}, []int{0, 3, 6}},
		{[][]api.Entry{fresh(0, 3), nil, fresh(1, 2)}, dead(0, 3), api.Built{Class: 1, Took: 6, Kept: 2}, []int{0, 2, 2}},
		{[][]api.Entry{dead(0, 3), older}, fresh(0, 3), api.Built{Class: 2, Took: 12, Kept: 6}, []int{0, 0, 6}},
		{[][]api.Entry{dead(0, 3), older}, dead(3, 3), api.Built{Class: 2, Took: 12}, nil},
		{[][]api.Entry{dead(0, 3), older}, fresh(6, 3), api.Built{Class: 2, Took: 12, Kept: 6}, []int{0, 0, 6}},
		{[][]api.Entry{dead(0, 3), older, nil, dead(0, 2), fresh(0, 9)}, dead(3, 3), api.Built{Class: 2, Took: 12, Kept: 4}, []int{0, 0, 4, 2, 9}}, // 2 to 5 are live above, 0 and 1 are tombstones there
	} {
		c, p := laid(t, 2, 3, x.lists...)
		if b, err := c.Take(x.l); b != x.want || err != api.OK || !slices.Equal(c.Sizes(), x.is) {
			t.Errorf("%d: %v, %d, Sizes %v", i, b, err, c.Sizes())
		}
		if want := min(x.want.Kept, 1); c.Builds() != want || c.Written() != x.want.Kept {
			t.Errorf("%d: Builds %d, Written %d", i, c.Builds(), c.Written())
		}
		p.take(x.l)
		hold(t, c, p)
		may(t, c)
	}
}

// P15.3 to P15.8: every short row of Takes of one entry, and of two, of all kinds and with keys at both ends.
func TestAllShortRows(t *testing.T) {
	all := func(kinds [][]api.Entry, most int) {
		each(kinds, most, func(row [][]api.Entry) {
			c, p := made(t, 2, len(kinds[0]))
			for i, l := range row {
				if i < len(row)-1 {
					takes(t, c, p, l) // what shorter rows have shown
					continue
				}
				keeps(t, c, p, l)
			}
			hold(t, c, p)
		})
	}
	all([][]api.Entry{{put(0, 0)}, {gone(0)}, {put(top, 1)}, {gone(top)}}, 7)
	var pairs [][]api.Entry
	for _, k := range [][2]uint64{{0, 1}, {0, top}, {1, top}} {
		pairs = append(pairs, list(put(k[0], 5), put(k[1], 0)), list(gone(k[0]), put(k[1], 7)), list(put(k[0], 6), gone(k[1])), list(gone(k[0]), gone(k[1])))
	}
	all(pairs, 4)
}

// P15.3 to P15.8: rows of Takes with few keys and with many, of bufs and eps of many sizes, with many tombstones, few, and none.
func TestRows(t *testing.T) {
	next := scatter()
	for _, eps := range []int{2, 3, 64} {
		for _, buf := range []int{1, 2, 3, 7, 20} {
			for _, below := range []uint64{0, uint64(buf), uint64(buf) + 1, 3 * uint64(buf), 200} {
				for _, tombs := range []uint64{0, 2, 4, 7, 8} {
					c, p := made(t, eps, buf)
					for range 30 {
						keeps(t, c, p, strewn(buf, below, tombs, next))
					}
					hold(t, c, p)
				}
			}
		}
	}
}

// P15.5: Runs, Sizes, Builds and Written behind each of many Takes.
func TestBehindEach(t *testing.T) {
	next := scatter()
	for _, tombs := range []uint64{0, 3, 6} {
		c, p := made(t, 4, 3)
		hold(t, c, p)
		for range 100 {
			keeps(t, c, p, strewn(3, 12, tombs, next))
			hold(t, c, p)
		}
	}
}

// P15.3, T5: where all entries are kept the classes that have runs are the ones in the number of Takes, and each entry is written once a class.
func TestDoubling(t *testing.T) {
	for _, buf := range []int{1, 3} {
		c, p := made(t, 2, buf)
		written := 0
		for n := 1; n <= 130; n++ {
			b := takes(t, c, p, fresh(uint64(n*buf), buf))
			class := bits.TrailingZeros(uint(n))
			if want := (api.Built{Class: class, Took: buf << class, Kept: buf << class}); b != want {
				t.Fatalf("Take %d: %v, not %v", n, b, want)
			}
			written += buf << class
			for i, size := range c.Sizes() {
				if size != buf<<i*(n>>i&1) {
					t.Fatalf("behind Take %d: Sizes %v", n, c.Sizes())
				}
			}
			if c.Builds() != n || c.Written() != written || len(c.Sizes()) != bits.Len(uint(n)) {
				t.Fatalf("behind Take %d: Builds %d, Written %d, Sizes %v", n, c.Builds(), c.Written(), c.Sizes())
			}
			may(t, c)
		}
		hold(t, c, p)
	}
}

// P15.3: a Take of which nothing is left leaves its class free, and all below it; the next one goes to class 0 again.
func TestNothingLeft(t *testing.T) {
	for n := range 7 {
		c, p := made(t, 2, 1)
		var lists [][]api.Entry
		for i := range n {
			lists = append(lists, list(put(5, uint64(i))))
		}
		if n > 0 {
			c, p = laid(t, 2, 1, lists...)
		}
		for range 3 {
			b := takes(t, c, p, list(gone(5)))
			if want := (api.Built{Class: n, Took: n + 1}); b != want || len(c.Runs()) != 0 || len(c.Sizes()) != 0 || c.Builds() != 0 || c.Written() != 0 {
				t.Fatalf("over %d runs: %v, Runs %v, Builds %d, Written %d", n, b, c.Runs(), c.Builds(), c.Written())
			}
			hold(t, c, p)
			n = 0
		}
	}
}

// piled are lists of one entry for each of the classes up to n, by a rule.
func piled(n int, entry func(class int) api.Entry) [][]api.Entry {
	var lists [][]api.Entry
	for class := range n {
		lists = append(lists, list(entry(class)))
	}
	return lists
}

// P15.3: each class the first that is free, with runs above it and without, up to the last one.
func TestFirstFree(t *testing.T) {
	for free := range api.MaxClass {
		for _, more := range []bool{false, true} {
			lists := piled(api.MaxClass, func(class int) api.Entry { return put(uint64(class), uint64(class)) })
			lists[free] = nil
			if !more {
				lists = lists[:free]
			}
			c, p := laid(t, 2, 1, lists...)
			keeps(t, c, p, list(put(100, 1)))
			hold(t, c, p)
			if n := c.Sizes()[free]; n != free+1 || c.Builds() != 1 || c.Written() != n {
				t.Fatalf("class %d has %d entries, Builds %d, Written %d", free, n, c.Builds(), c.Written())
			}
			keeps(t, c, p, list(gone(0)))
			hold(t, c, p)
		}
	}
}

// P15.3: where all classes have runs the last one takes all, its own run too, and no tombstone is left.
func TestAllTaken(t *testing.T) {
	for i, x := range []struct {
		entry func(class int) api.Entry
		l     []api.Entry
		want  api.Built
	}{
		{func(class int) api.Entry { return put(uint64(class), 7) }, list(put(99, 1)), api.Built{Class: 39, Took: 41, Kept: 41}},
		{func(class int) api.Entry { return put(uint64(class), 7) }, list(gone(99)), api.Built{Class: 39, Took: 41, Kept: 40}},
		{func(class int) api.Entry { return put(uint64(class), 7) }, list(gone(39)), api.Built{Class: 39, Took: 41, Kept: 39}},
		{func(class int) api.Entry { return put(uint64(class), 7) }, list(put(39, 8)), api.Built{Class: 39, Took: 41, Kept: 40}},
		{func(class int) api.Entry { return put(4, uint64(class)) }, list(put(4, 99)), api.Built{Class: 39, Took: 41, Kept: 1}},
		{func(class int) api.Entry { return put(4, uint64(class)) }, list(put(5, 99)), api.Built{Class: 39, Took: 41, Kept: 2}},
		{func(class int) api.Entry { return put(4, uint64(class)) }, list(gone(4)), api.Built{Class: 39, Took: 41}},
		{func(class int) api.Entry { return api.Entry{Key: 4, Gone: class%2 == 0} }, list(put(3, 1)), api.Built{Class: 39, Took: 41, Kept: 1}},
		{func(class int) api.Entry { return api.Entry{Key: 4, Gone: class%2 == 0} }, list(put(4, 1)), api.Built{Class: 39, Took: 41, Kept: 1}},
		{func(class int) api.Entry { return api.Entry{Key: uint64(class / 2), Gone: class%2 == 0} }, list(put(50, 1)), api.Built{Class: 39, Took: 41, Kept: 1}},
	} {
		c, p := laid(t, 2, 1, piled(api.MaxClass, x.entry)...)
		hold(t, c, p)
		for round := range 3 {
			d, q := c.Clone(), p.clone()
			keeps(t, d, q, x.l)
			hold(t, d, q)
			if b := takes(t, c, p, x.l); round == 0 && b != x.want {
				t.Errorf("%d: %v, not %v", i, b, x.want)
			}
			hold(t, c, p)
		}
	}
}

// P15.3: classes up to the last one but one, with tombstones of keys that class 39 alone has.
func TestLastClassBut(t *testing.T) {
	entry := func(class int) api.Entry {
		switch class {
		case 38:
			return gone(38)
		case 39:
			return put(38, 9)
		}
		return put(uint64(class), 1)
	}
	lists := piled(api.MaxClass, entry)
	lists[37] = nil
	c, p := laid(t, 2, 1, lists...)
	if b := takes(t, c, p, list(gone(38))); b != (api.Built{Class: 37, Took: 38, Kept: 37}) { // class 38 has its tombstone already
		t.Error(b)
	}
	hold(t, c, p)
	lists[37], lists[38] = list(put(37, 1)), nil
	c, p = laid(t, 2, 1, lists...)
	if b := takes(t, c, p, list(gone(38))); b != (api.Built{Class: 38, Took: 39, Kept: 39}) { // class 39 needs it
		t.Error(b)
	}
	hold(t, c, p)
	lists[38], lists[39] = list(put(38, 1)), nil
	c, p = laid(t, 2, 1, lists...)
	if b := takes(t, c, p, list(gone(38))); b != (api.Built{Class: 39, Took: 40, Kept: 38}) {
		t.Error(b)
	}
	hold(t, c, p)
}

// P15.4: a key that several classes have, a tombstone, and a key of none.
func TestGet(t *testing.T) {
	c, _ := laid(t, 2, 2, list(put(1, 10), gone(2)), nil, list(put(1, 11), put(2, 20), put(3, 30)), list(put(2, 22), put(3, 33), gone(4)), list(put(4, 44), put(5, 0)))
	for k, want := range map[uint64]api.Entry{1: put(1, 10), 2: gone(2), 3: put(3, 30), 4: gone(4), 5: put(5, 0)} {
		if e, there := c.Get(k); e != want || !there {
			t.Errorf("Get(%d): %v, %v", k, e, there)
		}
	}
	for _, k := range []uint64{0, 6, 1 << 63, top} {
		if e, there := c.Get(k); e != (api.Entry{}) || there {
			t.Errorf("Get(%d): %v, %v", k, e, there)
		}
	}
}

// R7: a clone is like the first one in all that can be asked, and each goes its own way.
func TestClone(t *testing.T) {
	next := scatter()
	for _, buf := range []int{1, 2, 5} {
		for n := range 20 {
			c, p := made(t, 3, buf)
			for range n {
				takes(t, c, p, strewn(buf, 15, 3, next))
			}
			d, q := c.Clone(), p.clone()
			hold(t, d, q)
			for range 9 {
				keeps(t, c, p, strewn(buf, 15, 3, next))
				hold(t, d, q)
			}
			for range 5 {
				keeps(t, d, q, strewn(buf, 15, 5, next))
				hold(t, c, p)
			}
			e, r := d.Clone(), q.clone()
			if _, err := e.Take(nil); err != api.ErrClassesFew {
				t.Fatalf("a clone of a buf of %d takes none: %d", buf, err)
			}
			takes(t, d, q, fresh(50, buf))
			hold(t, e, r)
		}
	}
}

// R4: lists that were handed in or told, and are then written over, change nothing; nor is the room behind a list read.
func TestMemory(t *testing.T) {
	next := scatter()
	c, p := made(t, 2, 3)
	for range 20 {
		l := append(make([]api.Entry, 0, 9), strewn(3, 10, 3, next)...)
		room := l[:cap(l)]
		for i := 3; i < len(room); i++ {
			room[i] = put(0, 77)
		}
		was := slices.Clone(room)
		takes(t, c, p, l)
		if !slices.Equal(room, was) {
			t.Fatalf("Take has written into what was handed in: %v, not %v", room, was)
		}
		for i := range room {
			room[i] = put(4, 4)
		}
		hold(t, c, p)
		spoilTold(c)
		hold(t, c, p)
	}
	rs := append(make([]*run.Run, 0, 60), c.Runs()...)
	was := slices.Clone(rs)
	room := rs[:cap(rs)]
	for i := len(rs); i < len(room); i++ {
		room[i] = room[len(rs)-1]
	}
	d, err := Of(2, 3, rs)
	if err != api.OK || !slices.Equal(rs, was) {
		t.Fatalf("Of: %d; %v became %v", err, was, rs)
	}
	clear(room)
	if !slices.Equal(d.Runs(), was) {
		t.Fatalf("Of keeps the list that was handed in: %v, not %v", d.Runs(), was)
	}
	spoilTold(d)
	hold(t, c, p)
	takes(t, c, p, fresh(20, 3))
	if !slices.Equal(d.Runs(), was) {
		t.Fatalf("a Take of those that the runs are of changes others: %v, not %v", d.Runs(), was)
	}
}

// R4: what was told stays as it was, whatever is taken then, and no two lists share memory.
func TestToldStays(t *testing.T) {
	c, p := made(t, 2, 2)
	for n := range uint64(20) {
		rs, sizes := c.Runs(), c.Sizes()
		wasRuns, wasSizes := slices.Clone(rs), slices.Clone(sizes)
		spoilTold(c)
		takes(t, c, p, fresh(2*n, 2))
		if !slices.Equal(rs, wasRuns) || !slices.Equal(sizes, wasSizes) {
			t.Fatalf("behind Take %d: %v, %v, not %v, %v", n, rs, sizes, wasRuns, wasSizes)
		}
	}
}

// spoilTold writes into all that classes tell, the spare room too.
func spoilTold(c *Classes) {
	rs := c.Runs()
	clear(rs[:cap(rs)])
	sizes := c.Sizes()
	for i := range sizes[:cap(sizes)] {
		sizes[:cap(sizes)][i] = 77
	}
	for _, r := range c.Runs() {
		if r != nil {
			clear(r.List())
		}
	}
}

// P15.6 to P15.8: many entries, with runs of several levels, far more than are held against the plain one.
func TestMany(t *testing.T) {
	next := scatter()
	const buf = 500
	c, _ := made(t, 8, buf)
	live := map[uint64]uint64{}
	for range 30 {
		l := strewn(buf, 6000, 2, next)
		ahead := c.Runs()
		b, err := c.Take(l)
		if err != api.OK {
			t.Fatal(err)
		}
		for _, e := range l {
			live[e.Key] = e.Value
			if e.Gone {
				delete(live, e.Key)
			}
		}
		little(t, c, b, ahead)
		for k := range uint64(6000) {
			e, there := c.Get(k)
			if v, is := live[k]; is != (there && !e.Gone) || v != e.Value {
				t.Fatalf("%d: %v, %v, not %d, %v", k, e, there, v, is)
			}
		}
	}
	for class, r := range c.Runs() {
		if r != nil && (keys.Check(r.List()) != api.OK || r.Len() > Most(buf, class)) {
			t.Errorf("class %d: %d entries", class, r.Len())
		}
	}
	if other, err := Of(8, buf, c.Runs()); err != api.OK || !slices.Equal(other.Runs(), c.Runs()) {
		t.Errorf("Of what Runs tells: %d", err)
	}
}
