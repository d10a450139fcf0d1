package tower

import (
	"maps"
	"math"
	"math/big"
	"slices"
	"testing"

	"incline/api"
	"incline/classes"
	"incline/keys"
	"incline/run"
)

const top = math.MaxUint64

// scatter gives words without a pattern, of all lengths, always the same ones.
func scatter() func() uint64 {
	x := uint64(0x9e3779b97f4a7c15)
	next := func() uint64 {
		x ^= x << 13
		x ^= x >> 7
		x ^= x << 17
		return x
	}
	return func() uint64 { return next() >> (next() % 64) }
}

// each hands over every row of at most most things of kinds.
func each[T any](kinds []T, most int, do func([]T)) {
	var grow func(l []T)
	grow = func(l []T) {
		do(slices.Clone(l))
		if len(l) == most {
			return
		}
		for _, k := range kinds {
			grow(append(slices.Clone(l), k))
		}
	}
	grow(nil)
}

func put(key, value uint64) api.Entry { return api.Entry{Key: key, Value: value} }

func gone(key uint64) api.Entry { return api.Entry{Key: key, Gone: true} }

func list(l ...api.Entry) []api.Entry { return l }

// fresh are n entries with rising keys from first on; dead are tombstones of such.
func fresh(first uint64, n int) []api.Entry {
	var l []api.Entry
	for i := range uint64(n) {
		l = append(l, put(first+i, first+i+1))
	}
	return l
}

func dead(first uint64, n int) []api.Entry {
	var l []api.Entry
	for i := range uint64(n) {
		l = append(l, gone(first+i))
	}
	return l
}

func sorted(all map[uint64]api.Entry) []api.Entry {
	var l []api.Entry
	for _, k := range slices.Sorted(maps.Keys(all)) {
		l = append(l, all[k])
	}
	return l
}

// plain is what a tower is by the promises' own words: a map of the buffer's entries, and a list of entries for each class; and beside them the plain map, which knows nothing of either.
type plain struct {
	config          api.Config
	buffer          map[uint64]api.Entry
	lists           [api.MaxClass][]api.Entry
	builds, written int
	live            map[uint64]uint64
}

// newest are the newest entries of all keys in the classes from from on.
func (p *plain) newest(from int) map[uint64]api.Entry {
	m := map[uint64]api.Entry{}
	for class := api.MaxClass - 1; class >= from; class-- {
		for _, e := range p.lists[class] {
			m[e.Key] = e
		}
	}
	return m
}

// livesOf are those of entries that are no tombstones.
func livesOf(m map[uint64]api.Entry) map[uint64]uint64 {
	live := map[uint64]uint64{}
	for k, e := range m {
		if !e.Gone {
			live[k] = e.Value
		}
	}
	return live
}

// all are the live keys of the classes, and of the buffer over them.
func (p *plain) all() map[uint64]uint64 {
	m := p.newest(0)
	maps.Copy(m, p.buffer)
	return livesOf(m)
}

// of is Of by the promise's words.
func of(c api.Config, buffer []api.Entry, lists ...[]api.Entry) (*plain, api.Errno) {
	p := &plain{config: c, buffer: map[uint64]api.Entry{}}
	if err := keys.Check(buffer); err != api.OK {
		return nil, err
	}
	if len(buffer) >= c.Buf {
		return nil, api.ErrBufferFull
	}
	for _, e := range buffer {
		p.buffer[e.Key] = e
	}
	copy(p.lists[:], lists)
	for class, l := range p.lists {
		above := livesOf(p.newest(class + 1))
		for _, e := range l {
			if _, is := above[e.Key]; e.Gone && !is {
				return nil, api.ErrClassesOrder
			}
		}
		if len(l) > classes.Most(c.Buf, class) {
			return nil, api.ErrClassesOrder
		}
	}
	p.live = p.all()
	crowded := len(p.live) > c.Keys
	for class := range p.lists {
		crowded = crowded || len(livesOf(p.newest(class))) > c.Keys
	}
	if crowded {
		return nil, api.ErrFull
	}
	return p, api.OK
}

func (p *plain) put(key, value uint64) api.Errno {
	if _, is := p.live[key]; !is && len(p.live) == p.config.Keys {
		return api.ErrFull
	}
	p.live[key] = value
	p.lay(put(key, value))
	return api.OK
}

func (p *plain) delete(key uint64) bool {
	if _, is := p.live[key]; !is {
		return false
	}
	delete(p.live, key)
	p.lay(gone(key))
	return true
}

// lay is what a change does to the buffer, and what a full one comes to.
func (p *plain) lay(e api.Entry) {
	p.buffer[e.Key] = e
	if len(p.buffer) < p.config.Buf {
		return
	}
	j := 0
	for j < api.MaxClass-1 && len(p.lists[j]) > 0 {
		j++
	}
	kept := map[uint64]api.Entry{}
	for class := j; class >= 0; class-- {
		for _, e := range p.lists[class] {
			kept[e.Key] = e
		}
		p.lists[class] = nil
	}
	maps.Copy(kept, p.buffer)
	p.buffer = map[uint64]api.Entry{}
	above := livesOf(p.newest(j + 1))
	maps.DeleteFunc(kept, func(k uint64, e api.Entry) bool {
		_, is := above[k]
		return e.Gone && !is
	})
	p.lists[j] = sorted(kept)
	if len(kept) > 0 {
		p.builds++
		p.written += len(kept)
	}
}

func (p *plain) sizes() []int {
	var l []int
	for class := range p.lists {
		if n := len(p.lists[class]); n > 0 {
			l = append(l, make([]int, class-len(l))...)
			l = append(l, n)
		}
	}
	return l
}

func (p *plain) clone() *plain {
	other := *p
	other.buffer, other.live = maps.Clone(p.buffer), maps.Clone(p.live)
	return &other
}

// ask are the keys about all that are there, and those at both ends.
func (p *plain) ask() []uint64 {
	l := []uint64{0, 1, 2, 1 << 63, top - 1, top}
	add := func(k uint64) { l = append(l, k-1, k, k+1) }
	for k := range p.buffer {
		add(k)
	}
	for k := range p.newest(0) {
		add(k)
	}
	slices.Sort(l)
	return slices.Compact(l)
}

// runOf is a run of entries; nil of none.
func runOf(t *testing.T, eps int, l ...api.Entry) *run.Run {
	t.Helper()
	if len(l) == 0 {
		return nil
	}
	r, err := run.New(l, eps)
	if err != api.OK {
		t.Fatalf("a run of %v, eps %d: %d", l, eps, err)
	}
	return r
}

// runsOf are runs of lists; nil of those without entries.
func runsOf(t *testing.T, eps int, lists ...[]api.Entry) []*run.Run {
	t.Helper()
	var rs []*run.Run
	for _, l := range lists {
		rs = append(rs, runOf(t, eps, l...))
	}
	return rs
}

// made is New's, with a plain one beside it.
func made(t *testing.T, eps, buf, most int) (*Tower, *plain) {
	t.Helper()
	c := api.Config{Eps: eps, Buf: buf, Keys: most}
	x, err := New(c)
	if x == nil || err != api.OK {
		t.Fatalf("New(%v): %v, %d", c, x, err)
	}
	p, _ := of(c, nil)
	return x, p
}

// laid is Of's of what may be, with a plain one beside it.
func laid(t *testing.T, c api.Config, buffer []api.Entry, lists ...[]api.Entry) (*Tower, *plain) {
	t.Helper()
	p, want := of(c, buffer, lists...)
	if want != api.OK {
		t.Fatalf("%v, %v, %v are none that may be: %d", c, buffer, lists, want)
	}
	x, err := Of(c, buffer, runsOf(t, c.Eps, lists...))
	if x == nil || err != api.OK {
		t.Fatalf("Of(%v, %v, %v): %v, %d", c, buffer, lists, x, err)
	}
	return x, p
}

// hold fails, unless a tower tells what the plain one does, whatever it is asked.
func hold(t *testing.T, x *Tower, p *plain) {
	t.Helper()
	if got := p.all(); !maps.Equal(got, p.live) { // the plain map is what the entries say
		t.Fatalf("the entries say %v, the plain map %v", got, p.live)
	}
	if x.Config() != p.config {
		t.Fatalf("Config: %v, not %v", x.Config(), p.config)
	}
	s := x.Stats()
	if s.Live != len(p.live) || s.Buffered != len(p.buffer) || s.Builds != p.builds || s.Written != p.written || !slices.Equal(s.Sizes, p.sizes()) {
		t.Fatalf("Stats: %v, not %d %d %d %d %v", s, len(p.live), len(p.buffer), p.builds, p.written, p.sizes())
	}
	if got, want := x.Buffer(), sorted(p.buffer); !slices.Equal(got, want) {
		t.Fatalf("Buffer: %v, not %v", got, want)
	}
	holdRuns(t, x.Runs(), p)
	for _, k := range p.ask() {
		v, is := x.Get(k)
		if want, there := p.live[k]; v != want || is != there {
			t.Fatalf("Get(%d): %d, %v, not %d, %v", k, v, is, want, there)
		}
	}
}

// holdRuns fails, unless runs are those of the plain one's entries: run.New's, with their levels.
func holdRuns(t *testing.T, rs []*run.Run, p *plain) {
	t.Helper()
	if len(rs) != len(p.sizes()) {
		t.Fatalf("%d Runs, not %d", len(rs), len(p.sizes()))
	}
	for class, r := range rs {
		want := runOf(t, p.config.Eps, p.lists[class]...)
		if (r == nil) != (want == nil) {
			t.Fatalf("class %d: the run %v of %v", class, r, p.lists[class])
		}
		if r != nil && (!slices.Equal(r.List(), want.List()) || r.Eps() != want.Eps() || !slices.EqualFunc(r.Levels(), want.Levels(), slices.Equal)) {
			t.Fatalf("class %d: %v, eps %d, not %v, eps %d", class, r.List(), r.Eps(), want.List(), want.Eps())
		}
	}
}

// puts and deletes fail, unless a tower and the plain one answer a change alike, and what follows of it holds.
func puts(t *testing.T, x *Tower, p *plain, key, value uint64) {
	t.Helper()
	ahead := x.Stats()
	want := p.put(key, value)
	if err := x.Put(key, value); err != want {
		t.Fatalf("Put(%d, %d) with %d live of %d: %d, not %d", key, value, ahead.Live, p.config.Keys, err, want)
	}
	little(t, x, ahead, want == api.OK)
}

func deletes(t *testing.T, x *Tower, p *plain, key uint64) {
	t.Helper()
	ahead := x.Stats()
	want := p.delete(key)
	if is := x.Delete(key); is != want {
		t.Fatalf("Delete(%d): %v, not %v", key, is, want)
	}
	little(t, x, ahead, want)
}

// little is P16.7 and P16.8, told of what was ahead of a change, and whether it changed something.
func little(t *testing.T, x *Tower, ahead api.Stats, changed bool) {
	t.Helper()
	c, s := x.Config(), x.Stats()
	builds, written := s.Builds-ahead.Builds, s.Written-ahead.Written
	if s.Buffered >= c.Buf {
		t.Fatalf("Buffered: %d of %d", s.Buffered, c.Buf)
	}
	if !changed && (s.Buffered != ahead.Buffered || s.Live != ahead.Live) {
		t.Fatalf("nothing was to change: %v, %v", ahead, s)
	}
	if (!changed || s.Buffered != 0) && (builds != 0 || written != 0 || !slices.Equal(s.Sizes, ahead.Sizes)) {
		t.Fatalf("nothing was to be built: %v, %v", ahead, s)
	}
	if changed && s.Buffered == 0 && (builds != 0 && builds != 1 || (builds == 0) != (written == 0)) {
		t.Fatalf("one run was to be built, or none: %v, %v", ahead, s)
	}
	for class, n := range s.Sizes {
		if n > 2*c.Keys || n > classes.Most(c.Buf, class) {
			t.Fatalf("class %d has %d entries, of %v", class, n, c)
		}
	}
}

// change does one change without a pattern, of keys below below (or any, if that is 0); so many of eight are deletes.
func change(t *testing.T, x *Tower, p *plain, below, deleted uint64, next func() uint64) {
	t.Helper()
	k := next()
	if below > 0 {
		k %= below
	} else if next()%4 == 0 {
		k = []uint64{0, 1, top - 1, top}[next()%4]
	}
	if next()%8 < deleted {
		deletes(t, x, p, k)
	} else {
		puts(t, x, p, k, next())
	}
}

// again fails, unless Of takes what a tower tells, and has it then.
func again(t *testing.T, x *Tower, p *plain) {
	t.Helper()
	y, err := Of(x.Config(), x.Buffer(), x.Runs())
	if err != api.OK || !slices.Equal(y.Runs(), x.Runs()) {
		t.Fatalf("Of what a tower tells: %v, %d", y, err)
	}
	q := p.clone()
	q.builds, q.written = 0, 0
	hold(t, y, q)
}

// stats fails, unless a tower's counts are these.
func stats(t *testing.T, x *Tower, live, buffered, builds, written int, sizes ...int) {
	t.Helper()
	s := x.Stats()
	if s.Live != live || s.Buffered != buffered || s.Builds != builds || s.Written != written || !slices.Equal(s.Sizes, sizes) {
		t.Fatalf("Stats: %v, not %d %d %d %d %v", s, live, buffered, builds, written, sizes)
	}
}

// P16.1, P16.3 to P16.5: the chapter's examples.
func TestExamples(t *testing.T) {
	x, p := made(t, 2, 4, 100)
	for k := range uint64(3) {
		puts(t, x, p, k+1, 10*k+10)
	}
	stats(t, x, 3, 3, 0, 0)
	puts(t, x, p, 4, 40)
	stats(t, x, 4, 0, 1, 4, 4)
	if a, b := x.Delete(2), x.Delete(2); !a || b {
		t.Errorf("Delete(2) twice: %v, %v", a, b)
	}
	if v, is := x.Get(2); v != 0 || is {
		t.Errorf("Get(2): %d, %v", v, is)
	}
	stats(t, x, 3, 1, 1, 4, 4)
	p.delete(2)
	hold(t, x, p)
	for k := range uint64(3) {
		puts(t, x, p, k+5, 10*k+50)
	}
	stats(t, x, 6, 0, 2, 10, 0, 6)
	hold(t, x, p)
	for _, c := range []api.Config{{Eps: 2, Buf: 4, Keys: 1 << 32}, {Eps: 2, Buf: 0, Keys: 100}, {Eps: 65, Buf: 4, Keys: 100}} {
		if err := Check(c); err != api.ErrConfig {
			t.Errorf("Check(%v): %d", c, err)
		}
	}
}

// T1: the tenth of the document's examples.
func TestTwoKeys(t *testing.T) {
	for _, buf := range []int{1, 2, 3, 4, 9} {
		x, p := made(t, 2, buf, 2)
		if a, b, c, d := x.Put(1, 1), x.Put(2, 2), x.Put(3, 3), x.Put(1, 4); a != api.OK || b != api.OK || c != api.ErrFull || d != api.OK {
			t.Errorf("buf %d: %d %d %d %d", buf, a, b, c, d)
		}
		if a, b := x.Delete(2), x.Put(3, 3); !a || b != api.OK {
			t.Errorf("buf %d: %v %d", buf, a, b)
		}
		p.put(1, 1)
		p.put(2, 2)
		p.put(1, 4)
		p.delete(2)
		p.put(3, 3)
		hold(t, x, p)
	}
}

// mayBe is P16.1 in whole numbers without a bound.
func mayBe(c api.Config) bool {
	sum := new(big.Int).Lsh(big.NewInt(int64(c.Keys)), 1)
	sum.Add(sum, big.NewInt(int64(c.Buf)))
	return c.Eps >= 2 && c.Eps <= 64 && c.Buf >= 1 && c.Buf <= 1<<32 && c.Keys >= 1 && c.Keys <= 1<<32 && sum.Cmp(big.NewInt(1<<32)) <= 0
}

// P16.1: Check, New and Of of every Eps, Buf and Keys of many: those that may not be, and the edges of those that may.
func TestCheck(t *testing.T) {
	sizes := []int{math.MinInt, math.MinInt + 1, math.MinInt/2 - 1, math.MinInt / 2, -1 << 32, -2, -1, 0, 1, 2, 3, 1<<31 - 2, 1<<31 - 1, 1 << 31, 1<<31 + 1, 1<<32 - 3, 1<<32 - 2, 1<<32 - 1, 1 << 32, 1<<32 + 1, 1 << 33, math.MaxInt/2 - 1, math.MaxInt / 2, math.MaxInt/2 + 1, math.MaxInt - 1, math.MaxInt}
	may := 0
	for _, eps := range []int{math.MinInt, -64, -2, -1, 0, 1, 2, 3, 63, 64, 65, 66, 1<<32 + 2, math.MaxInt} {
		for _, buf := range sizes {
			for _, most := range sizes {
				c := api.Config{Eps: eps, Buf: buf, Keys: most}
				want := api.ErrConfig
				if mayBe(c) {
					want = api.OK
					may++
				}
				checked(t, c, want)
			}
		}
	}
	if may == 0 {
		t.Error("none of these may be")
	}
	for _, x := range []struct{ buf, most int }{{2, 1<<31 - 1}, {1, 1<<31 - 1}, {4, 1<<31 - 2}, {1 << 31, 1 << 30}, {1<<32 - 2, 1}} {
		checked(t, api.Config{Eps: 2, Buf: x.buf, Keys: x.most}, api.OK)
	}
	for _, x := range []struct{ buf, most int }{{3, 1<<31 - 1}, {1, 1 << 31}, {5, 1<<31 - 2}, {1<<31 + 1, 1 << 30}, {1<<32 - 1, 1}, {1 << 32, 1}} {
		checked(t, api.Config{Eps: 2, Buf: x.buf, Keys: x.most}, api.ErrConfig)
	}
}

// checked fails, unless Check, New and Of answer this of a config.
func checked(t *testing.T, c api.Config, want api.Errno) {
	t.Helper()
	if err := Check(c); err != want {
		t.Errorf("Check(%v): %d, not %d", c, err, want)
	}
	x, err := New(c)
	y, err2 := Of(c, []api.Entry{}, []*run.Run{nil})
	if err != want || err2 != want || (x == nil) != (want != api.OK) || (y == nil) != (want != api.OK) {
		t.Errorf("New, and Of, of %v: %v, %d, and %v, %d, not %d", c, x, err, y, err2, want)
	}
	if want == api.OK {
		p, _ := of(c, nil)
		hold(t, x, p)
		hold(t, y, p)
	}
}

// P16.2: Of what may be, then changed.
func TestOf(t *testing.T) {
	c := api.Config{Eps: 2, Buf: 3, Keys: 9}
	for _, buffer := range [][]api.Entry{nil, {}, {put(1, 77)}, {gone(1)}, {gone(0), put(top, 5)}, {put(2, 0), gone(50)}, dead(60, 2)} {
		for _, lists := range [][][]api.Entry{
			nil,
			make([][]api.Entry, 90),
			{fresh(1, 3)},
			{nil, fresh(0, 6), nil},
			{dead(1, 3), nil, fresh(1, 5)},
			{dead(1, 2), fresh(2, 3), list(put(1, 8), gone(4)), nil, list(put(4, 4)), nil, nil},
			append(make([][]api.Entry, 39), fresh(1, 7)),
			append(append([][]api.Entry{dead(1, 3)}, make([][]api.Entry, 38)...), fresh(1, 7), nil, nil),
		} {
			x, p := laid(t, c, buffer, lists...)
			hold(t, x, p)
			stats(t, x, len(p.live), len(buffer), 0, 0, p.sizes()...)
			again(t, x, p)
			for k := range uint64(9) {
				deletes(t, x, p, k/2)
				hold(t, x, p)
				puts(t, x, p, k, k)
				hold(t, x, p)
			}
		}
	}
}

// refused fails, unless Of answers this error, and no tower.
func refused(t *testing.T, c api.Config, buffer []api.Entry, l []*run.Run, want api.Errno) {
	t.Helper()
	if x, err := Of(c, buffer, l); x != nil || err != want {
		t.Errorf("Of(%v, %v, %v): %v, %d, not %d", c, buffer, l, x, err, want)
	}
}

// P16.2: each error of Of, ahead of all that are named behind it.
func TestOfRefused(t *testing.T) {
	c := api.Config{Eps: 2, Buf: 2, Keys: 3}
	wrong := api.Config{Eps: 2, Buf: 2, Keys: 0}
	unsorted, unclean := list(put(2, 1), put(2, 2)), list(api.Entry{Key: 1, Value: 1, Gone: true})
	full, many := list(put(8, 1), put(9, 1)), list(put(6, 1), put(7, 1), gone(8))
	orphan := []*run.Run{runOf(t, 2, gone(1))}
	other := []*run.Run{runOf(t, 3, put(1, 1))}
	tooBig := []*run.Run{runOf(t, 2, fresh(1, 3)...)}
	none, _ := run.New(nil, 2)
	tooHigh := append(make([]*run.Run, 40), runOf(t, 2, put(1, 1)))
	crowd := []*run.Run{nil, runOf(t, 2, fresh(1, 4)...)}
	for _, l := range [][]*run.Run{nil, orphan, crowd} {
		for _, b := range [][]api.Entry{nil, unsorted, unclean, full} {
			refused(t, wrong, b, l, api.ErrConfig)
		}
		refused(t, c, unsorted, l, api.ErrKeysOrder)
		refused(t, c, list(put(3, 1), put(2, 1), put(1, 1)), l, api.ErrKeysOrder)
		refused(t, c, append(slices.Clone(full), put(1, 1)), l, api.ErrKeysOrder)
		refused(t, c, unclean, l, api.ErrKeysGone)
		refused(t, c, append(slices.Clone(unclean), full...), l, api.ErrKeysGone)
		refused(t, c, full, l, api.ErrBufferFull)
		refused(t, c, many, l, api.ErrBufferFull)
		refused(t, api.Config{Eps: 2, Buf: 1, Keys: 3}, list(gone(7)), l, api.ErrBufferFull)
	}
	for _, l := range [][]*run.Run{orphan, other, tooBig, {none}, {nil, none}, {nil, crowd[1], orphan[0]}} {
		refused(t, c, nil, l, api.ErrClassesOrder)
		refused(t, c, list(put(1, 1)), l, api.ErrClassesOrder)
		refused(t, api.Config{Eps: 2, Buf: 2, Keys: 1}, nil, l, api.ErrClassesOrder)
	}
	refused(t, c, nil, tooHigh, api.ErrArg)
	refused(t, c, list(put(9, 9)), append(slices.Clone(crowd), tooHigh[2:]...), api.ErrArg)
	refused(t, c, nil, crowd, api.ErrFull)
}

// P16.2: too many live keys: in the oldest run, in a newer one with the older ones, in all runs together, and with the buffer alone; one key more may be nowhere, though what is newer deletes it.
func TestOfFull(t *testing.T) {
	for i, x := range []struct {
		buffer []api.Entry
		lists  [][]api.Entry
		most   int // the least Keys with which this may be
	}{
		{nil, [][]api.Entry{fresh(1, 4)}, 4},
		{list(put(9, 1)), [][]api.Entry{fresh(1, 4)}, 5},
		{list(put(2, 1)), [][]api.Entry{fresh(1, 4)}, 4},
		{fresh(1, 3), nil, 3},
		{list(put(1, 1), gone(2), put(3, 3)), nil, 2},
		{list(gone(2)), [][]api.Entry{fresh(1, 4)}, 4}, // the runs by themselves have four
		{list(gone(1), gone(2), put(9, 9)), [][]api.Entry{nil, fresh(1, 4)}, 4},
		{dead(1, 3), [][]api.Entry{dead(4, 4), nil, fresh(1, 8)}, 8}, // all together have one
		{list(gone(1)), [][]api.Entry{dead(2, 3), nil, list(put(1, 5), put(9, 5)), nil, fresh(2, 7)}, 9},
		{nil, [][]api.Entry{fresh(20, 4), fresh(10, 4), fresh(1, 6)}, 14},
		{nil, [][]api.Entry{dead(1, 4), fresh(10, 4), fresh(1, 6)}, 10}, // classes 1 and 2 have them
		{nil, [][]api.Entry{dead(1, 4), dead(5, 2), fresh(1, 6)}, 6},
		{fresh(30, 3), [][]api.Entry{dead(1, 4), dead(5, 2), fresh(1, 6)}, 6},
		{fresh(30, 3), [][]api.Entry{dead(3, 2), dead(5, 2), fresh(1, 4), nil, nil, list(put(5, 1), put(6, 1))}, 6},
		{fresh(1, 3), [][]api.Entry{fresh(1, 4), fresh(1, 5), fresh(1, 6)}, 6},
		{dead(1, 3), [][]api.Entry{list(put(6, 6)), append(dead(4, 2), fresh(7, 2)...), append(fresh(4, 2), gone(9)), fresh(8, 2)}, 3},
	} {
		for most := 1; most < x.most+3; most++ {
			c := api.Config{Eps: 2, Buf: 4, Keys: most}
			want := api.OK
			if most < x.most {
				want = api.ErrFull
			}
			if _, err := of(c, x.buffer, x.lists...); err != want {
				t.Errorf("%d: with Keys %d it is %d, not %d", i, most, err, want)
			}
			if want != api.OK {
				refused(t, c, x.buffer, runsOf(t, 2, x.lists...), want)
				continue
			}
			y, p := laid(t, c, x.buffer, x.lists...)
			hold(t, y, p)
		}
	}
}

// P16.3, T1: a put is refused just if its key is not live and as many keys as may be are: of a key that never was, of one that was deleted; never of one that is live, in the buffer or in a run. A put that is refused changes nothing.
func TestPutFull(t *testing.T) {
	for _, buf := range []int{1, 2, 3, 5, 20} {
		for _, most := range []int{1, 2, 7} {
			x, p := made(t, 3, buf, most)
			for k := range uint64(most) {
				puts(t, x, p, 10*k, k)
			}
			for k := range uint64(most) {
				puts(t, x, p, 10*k+1, k)
				puts(t, x, p, top, k)
				hold(t, x, p)
				if err := x.Clone().Put(10*k+1, k); err != api.ErrFull {
					t.Fatalf("buf %d, %d keys: %d", buf, most, err)
				}
				puts(t, x, p, 10*k, k+1)
				hold(t, x, p)
				deletes(t, x, p, 10*k)
				puts(t, x, p, 10*k+2, 1)
				puts(t, x, p, 10*k, k)
				hold(t, x, p)
				if err := x.Clone().Put(10*k, k); err != api.ErrFull {
					t.Fatalf("buf %d, %d keys: %d, of a key that was deleted", buf, most, err)
				}
			}
		}
	}
}

// P16.3: Delete of a key that is live in the buffer, in a run, in both, of one that was deleted in either, and of none; then once more.
func TestDelete(t *testing.T) {
	c := api.Config{Eps: 2, Buf: 4, Keys: 9}
	buffer := list(put(2, 22), gone(3), put(7, 7))
	lists := [][]api.Entry{list(gone(4), put(5, 5)), list(put(1, 1), put(2, 2), put(3, 3), put(4, 4), put(5, 55))}
	for k, want := range map[uint64]bool{0: false, 1: true, 2: true, 3: false, 4: false, 5: true, 6: false, 7: true, top: false} {
		x, p := laid(t, c, buffer, lists...)
		live := x.Stats().Live
		if is := x.Delete(k); is != want {
			t.Errorf("Delete(%d): %v", k, is)
		}
		p.delete(k)
		hold(t, x, p)
		if want && x.Stats().Live != live-1 || !want && x.Stats().Live != live {
			t.Errorf("Delete(%d): %d are live, of %d", k, x.Stats().Live, live)
		}
		if x.Delete(k) {
			t.Errorf("Delete(%d) twice", k)
		}
		hold(t, x, p)
	}
}

// P16.3, P16.7: a change that fills the buffer, be it a put or a delete; one of a key that the buffer has, which does not; and one of which nothing is left.
func TestFill(t *testing.T) {
	x, p := made(t, 2, 3, 10)
	puts(t, x, p, 1, 1)
	puts(t, x, p, 2, 2)
	puts(t, x, p, 2, 3)
	deletes(t, x, p, 2)
	puts(t, x, p, 2, 4)
	stats(t, x, 2, 2, 0, 0)
	puts(t, x, p, 3, 3)
	stats(t, x, 3, 0, 1, 3, 3)
	hold(t, x, p)
	deletes(t, x, p, 1)
	deletes(t, x, p, 2)
	stats(t, x, 1, 2, 1, 3, 3)
	deletes(t, x, p, 1)
	deletes(t, x, p, 9)
	stats(t, x, 1, 2, 1, 3, 3)
	hold(t, x, p)
	deletes(t, x, p, 3)
	stats(t, x, 0, 0, 1, 3) // nothing is left: no run is laid down
	hold(t, x, p)
	puts(t, x, p, 5, 5)
	deletes(t, x, p, 5)
	puts(t, x, p, 6, 6)
	deletes(t, x, p, 6)
	stats(t, x, 0, 2, 1, 3) // two tombstones of keys that no run has
	puts(t, x, p, 7, 7)
	stats(t, x, 1, 0, 2, 4, 1)
	hold(t, x, p)
	deletes(t, x, p, 7)
	puts(t, x, p, 8, 8)
	puts(t, x, p, 9, 9)
	stats(t, x, 2, 0, 3, 6, 0, 2)
	hold(t, x, p)
	again(t, x, p)
}

// P16.3: with a buffer of one entry each change is a run's.
func TestBufferOfOne(t *testing.T) {
	x, p := made(t, 2, 1, 3)
	for i := range uint64(40) {
		puts(t, x, p, i%3, i)
		if s := x.Stats(); s.Buffered != 0 || s.Builds != int(i)+1 {
			t.Fatalf("behind %d puts: %v", i+1, s)
		}
		hold(t, x, p)
	}
	for i := range uint64(3) {
		deletes(t, x, p, i)
		deletes(t, x, p, i)
		hold(t, x, p)
	}
}

// P16.4: Get of a key in the buffer, in a run, in both, of a tombstone in either, and of none; a value of 0 is one.
func TestGet(t *testing.T) {
	c := api.Config{Eps: 2, Buf: 6, Keys: 9}
	buffer := list(put(0, 10), put(2, 22), gone(3), put(4, 44), gone(9))
	x, _ := laid(t, c, buffer, list(gone(4), put(5, 55), gone(6)), nil, list(put(1, 0), put(2, 2), put(3, 3), put(4, 4), put(5, 5), put(6, 6)))
	for k, want := range map[uint64]uint64{0: 10, 1: 0, 2: 22, 4: 44, 5: 55} {
		if v, is := x.Get(k); v != want || !is {
			t.Errorf("Get(%d): %d, %v", k, v, is)
		}
	}
	for _, k := range []uint64{3, 6, 7, 8, 9, 10, 1 << 63, top} {
		if v, is := x.Get(k); v != 0 || is {
			t.Errorf("Get(%d): %d, %v", k, v, is)
		}
	}
}

// P16.3 to P16.8: every short row of changes, with keys at both ends, of small bufs, with as many keys as may be and fewer.
func TestAllShortRows(t *testing.T) {
	kinds := []api.Entry{put(0, 1), put(0, 0), gone(0), put(7, 2), gone(7), put(top, 3), gone(top)}
	for _, buf := range []int{1, 2, 3} {
		for _, most := range []int{1, 2, 3} {
			each(kinds, 5, func(row []api.Entry) {
				x, p := made(t, 2, buf, most)
				for _, e := range row {
					if e.Gone {
						deletes(t, x, p, e.Key)
					} else {
						puts(t, x, p, e.Key, e.Value)
					}
				}
				hold(t, x, p)
			})
		}
	}
}

// P16.3 to P16.8: rows of changes with few keys and with any, of many bufs, eps and Keys, with many deletes and few, held behind each.
func TestRows(t *testing.T) {
	next := scatter()
	for i, buf := range []int{1, 2, 3, 5, 8, 30} {
		for _, most := range []int{1, 2, 5, 12, 1000} {
			for _, below := range []uint64{0, 2, 7, 25} {
				for _, deleted := range []uint64{1, 4, 6} {
					x, p := made(t, []int{2, 3, 64}[i%3], buf, most)
					for range 60 {
						change(t, x, p, below, deleted, next)
						hold(t, x, p)
					}
					again(t, x, p)
				}
			}
		}
	}
}

// P16.8: all keys are put, then deleted, then others, so that runs have as many tombstones as may be: for ever at most twice Keys.
func TestSize(t *testing.T) {
	greatest := 0
	for _, most := range []int{1, 3, 8, 20} {
		for _, buf := range []int{1, 2, 3, 7} {
			x, p := made(t, 2, buf, most)
			for round := range uint64(30) {
				for k := range uint64(most) {
					puts(t, x, p, round%3*1000+k, round)
				}
				for k := range uint64(most) {
					deletes(t, x, p, round%3*1000+k)
					if k%2 == round%2 {
						puts(t, x, p, 5000+k, round)
						deletes(t, x, p, 5000+k)
					}
				}
				hold(t, x, p)
				greatest = max(greatest, slices.Max(append(x.Stats().Sizes, 0)))
			}
			again(t, x, p)
		}
	}
	if greatest < 20 {
		t.Errorf("the greatest run has %d entries: that is no great one", greatest)
	}
}

// P16.8: a run of as many entries as may be: Keys live ones, and as many tombstones of the older run's keys.
func TestSizeIsMet(t *testing.T) {
	const most = 8
	c := api.Config{Eps: 2, Buf: 4, Keys: most}
	x, p := laid(t, c, nil, nil, nil, nil, nil, fresh(0, most))
	for k := range uint64(most) {
		deletes(t, x, p, k)
		puts(t, x, p, 100+k, k)
	}
	hold(t, x, p)
	stats(t, x, most, 0, 4, 4+8+4+16, 0, 0, 2*most, 0, most)
	for k := range uint64(most) { // once more over them: the tombstones stay as many
		deletes(t, x, p, 100+k)
		puts(t, x, p, 200+k, k)
		hold(t, x, p)
	}
	for class, n := range x.Stats().Sizes {
		if n > 2*most {
			t.Errorf("class %d has %d entries", class, n)
		}
	}
}

// strewn are lists for classes and entries for a buffer, without a pattern, with tombstones mostly where they may be.
func strewn(c api.Config, next func() uint64) ([]api.Entry, [][]api.Entry) {
	lists := make([][]api.Entry, 2+next()%4)
	p := &plain{config: c}
	for class := len(lists) - 1; class >= 0; class-- {
		above, l := livesOf(p.newest(class+1)), map[uint64]api.Entry{}
		for range min(next()%8, uint64(classes.Most(c.Buf, class))) {
			k := next() % 12
			_, live := above[k]
			if l[k] = put(k, next()); next()%3 == 0 && (live || next()%16 == 0) {
				l[k] = gone(k)
			}
		}
		lists[class] = sorted(l)
		p.lists[class] = lists[class]
	}
	buffer := map[uint64]api.Entry{}
	for range next() % uint64(c.Buf) {
		k := next() % 14
		if buffer[k] = put(k, next()); next()%2 == 0 {
			buffer[k] = gone(k)
		}
	}
	return sorted(buffer), lists
}

// P16.2, P16.6 to P16.8: towers of Of, without a pattern: what may not be is refused by the right error, what may be keeps all that is promised behind any changes.
func TestOfStrewn(t *testing.T) {
	next := scatter()
	seen := map[api.Errno]int{}
	for range 6000 {
		c := api.Config{Eps: 2 + int(next()%3), Buf: 1 + int(next()%4), Keys: 1 + int(next()%9)}
		buffer, lists := strewn(c, next)
		p, want := of(c, buffer, lists...)
		x, err := Of(c, buffer, runsOf(t, c.Eps, lists...))
		if err != want || (x == nil) != (want != api.OK) {
			t.Fatalf("Of(%v, %v, %v): %v, %d, not %d", c, buffer, lists, x, err, want)
		}
		seen[err]++
		if err != api.OK {
			continue
		}
		hold(t, x, p)
		for range 12 {
			change(t, x, p, 14, 4, next)
		}
		hold(t, x, p)
		again(t, x, p)
	}
	if seen[api.OK] < 500 || seen[api.ErrFull] < 200 || seen[api.ErrClassesOrder] < 100 {
		t.Errorf("too few of some kind: %v", seen)
	}
}

// P16.3, P16.8: where all classes have runs the last one takes all.
func TestAllTaken(t *testing.T) {
	var lists [][]api.Entry
	for class := range uint64(api.MaxClass) {
		lists = append(lists, list(api.Entry{Key: class / 2, Gone: class%2 == 0}))
	}
	c := api.Config{Eps: 2, Buf: 1, Keys: 3}
	x, p := laid(t, c, nil, lists...)
	hold(t, x, p)
	stats(t, x, 0, 0, 0, 0, slices.Repeat([]int{1}, api.MaxClass)...)
	puts(t, x, p, 5, 9)
	hold(t, x, p)
	stats(t, x, 1, 0, 1, 1, append(make([]int, 39), 1)...)
	puts(t, x, p, 6, 9)
	hold(t, x, p)
}

// R7: a clone is like the first one in all that can be asked, and each goes its own way.
func TestClone(t *testing.T) {
	next := scatter()
	for _, buf := range []int{1, 2, 5, 40} {
		for n := range 20 {
			x, p := made(t, 3, buf, 6)
			for range n {
				change(t, x, p, 9, 3, next)
			}
			y, q := x.Clone(), p.clone()
			hold(t, y, q)
			for range 9 {
				change(t, x, p, 9, 3, next)
				hold(t, x, p)
				hold(t, y, q)
			}
			for range 9 {
				change(t, y, q, 9, 4, next)
				hold(t, y, q)
				hold(t, x, p)
			}
			z, r := y.Clone(), q.clone()
			for range 5 {
				change(t, y, q, 9, 4, next)
				change(t, z, r, 9, 2, next)
				hold(t, y, q)
				hold(t, z, r)
			}
		}
	}
}

// R4: lists that were handed in, and are then written over, change nothing; they stay as they are, and the room behind them is not read.
func TestHandedIn(t *testing.T) {
	c := api.Config{Eps: 2, Buf: 4, Keys: 20}
	room := append(make([]api.Entry, 0, 9), put(1, 1), gone(3))
	room = append(room, put(2, 2), put(2, 2), put(9, 9))
	rs := append(make([]*run.Run, 0, 60), runsOf(t, 2, list(gone(1), put(4, 4)), fresh(1, 5))...)
	rs = append(rs, runOf(t, 3, put(1, 1)), runOf(t, 2, gone(50)))
	wasRoom, wasRuns := slices.Clone(room), slices.Clone(rs)
	x, err := Of(c, room[:2], rs[:2])
	if err != api.OK {
		t.Fatal(err)
	}
	p, _ := of(c, wasRoom[:2], list(gone(1), put(4, 4)), fresh(1, 5))
	hold(t, x, p)
	for k := range uint64(6) {
		puts(t, x, p, 10+k, k)
		deletes(t, x, p, k)
	}
	if !slices.Equal(room, wasRoom) || !slices.Equal(rs, wasRuns) {
		t.Fatalf("what was handed in became %v, %v", room, rs)
	}
	y, _ := Of(c, room[:2], rs[:2])
	q, _ := of(c, wasRoom[:2], list(gone(1), put(4, 4)), fresh(1, 5))
	for i := range room {
		room[i] = put(7, 7)
	}
	clear(rs)
	hold(t, y, q)
	hold(t, x, p)
}

// R4: what was told stays as it was whatever is changed then; and what is told may be written over.
func TestTold(t *testing.T) {
	next := scatter()
	x, p := made(t, 2, 3, 9)
	for range 60 {
		buffer, rs, sizes := x.Buffer(), x.Runs(), x.Stats().Sizes
		wasBuffer, wasRuns, wasSizes := slices.Clone(buffer), slices.Clone(rs), slices.Clone(sizes)
		spoil(x)
		hold(t, x, p)
		change(t, x, p, 12, 3, next)
		if !slices.Equal(buffer, wasBuffer) || !slices.Equal(rs, wasRuns) || !slices.Equal(sizes, wasSizes) {
			t.Fatalf("what was told became %v, %v, %v", buffer, rs, sizes)
		}
		y, q := x.Clone(), p.clone()
		spoil(y)
		hold(t, x, p)
		spoil(x)
		hold(t, y, q)
	}
}

// spoil writes into all that a tower tells, the spare room too.
func spoil(x *Tower) {
	for _, r := range x.Runs() {
		if r != nil {
			clear(r.List())
		}
	}
	rs := x.Runs()
	clear(rs[:cap(rs)])
	l := x.Buffer()
	for i := range l[:cap(l)] {
		l[:cap(l)][i] = put(77, 77)
	}
	sizes := x.Stats().Sizes
	for i := range sizes[:cap(sizes)] {
		sizes[:cap(sizes)][i] = 77
	}
}

// P16.6 to P16.8: many changes, with runs of several levels, far more than are held against the plain one.
func TestMany(t *testing.T) {
	next := scatter()
	c := api.Config{Eps: 8, Buf: 100, Keys: 3000}
	x, err := New(c)
	if err != api.OK {
		t.Fatal(err)
	}
	live := map[uint64]uint64{}
	full := 0
	for i := range 60000 {
		k := next()*0x9e3779b97f4a7c15>>51 + 5
		v, is := live[k]
		if got, there := x.Get(k); got != v || there != is {
			t.Fatalf("Get(%d): %d, %v, not %d, %v", k, got, there, v, is)
		}
		ahead := x.Stats()
		changed := true
		if i/20000 == 1 && i%3 > 0 || i%7 == 0 {
			if changed = x.Delete(k); changed != is {
				t.Fatalf("Delete(%d): %v, not %v", k, changed, is)
			}
			delete(live, k)
		} else {
			err := x.Put(k, uint64(i))
			if changed = err == api.OK; changed != (is || len(live) < c.Keys) || !changed && err != api.ErrFull {
				t.Fatalf("Put(%d): %d, with %d live", k, err, len(live))
			}
			if changed {
				live[k] = uint64(i)
			} else {
				full++
			}
		}
		little(t, x, ahead, changed)
		if n := x.Stats().Live; n != len(live) {
			t.Fatalf("Live: %d, not %d", n, len(live))
		}
	}
	if full == 0 || len(live) < 1000 {
		t.Errorf("%d puts were refused, %d keys are live", full, len(live))
	}
	for k := range uint64(8200) {
		v, is := x.Get(k)
		if want, there := live[k]; v != want || is != there {
			t.Fatalf("Get(%d): %d, %v, not %d, %v", k, v, is, want, there)
		}
	}
	if y, err := Of(c, x.Buffer(), x.Runs()); err != api.OK || y.Stats().Live != len(live) {
		t.Errorf("Of what it tells: %d", err)
	}
}
