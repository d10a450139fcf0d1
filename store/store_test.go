package store

import (
	"bytes"
	"encoding/binary"
	"maps"
	"math"
	"runtime"
	"slices"
	"testing"

	"incline/api"
	"incline/ask"
	"incline/classes"
	"incline/codec"
	"incline/run"
	"incline/tower"
)

const top = math.MaxUint64

// small is the config of the chapter's examples.
var small = api.Config{Eps: 2, Buf: 4, Keys: 100}

// scatter gives words without a pattern, of all lengths, always the same ones.
func scatter() func() uint64 {
	x := uint64(0x9e3779b97f4a7c15)
	next := func() uint64 {
		x ^= x << 13
		x ^= x >> 7
		x ^= x << 17
		return x
	}
	return func() uint64 { return next() >> (next() % 64) }
}

func put(key, value uint64) api.Entry { return api.Entry{Key: key, Value: value} }

func dead(key uint64) api.Entry { return api.Entry{Key: key, Gone: true} }

func list(l ...api.Entry) []api.Entry { return l }

// fresh are n entries from a key on, tombs as many tombstones.
func fresh(first uint64, n int) []api.Entry {
	var l []api.Entry
	for i := range uint64(n) {
		l = append(l, put(first+i, 10*(first+i)))
	}
	return l
}

func tombs(first uint64, n int) []api.Entry {
	var l []api.Entry
	for i := range uint64(n) {
		l = append(l, dead(first+i))
	}
	return l
}

// join lays things down one behind the other: texts and bytes as they are, whole numbers and floats as eight bytes.
func join(things ...any) []byte {
	var b []byte
	for _, x := range things {
		switch x := x.(type) {
		case string:
			b = append(b, x...)
		case []byte:
			b = append(b, x...)
		case byte:
			b = append(b, x)
		case int:
			b = binary.BigEndian.AppendUint64(b, uint64(x))
		case uint64:
			b = binary.BigEndian.AppendUint64(b, x)
		case float64:
			b = binary.BigEndian.AppendUint64(b, math.Float64bits(x))
		default:
			panic("no kind of thing that is laid down")
		}
	}
	return b
}

// entryPieces are an entry's bytes as the chapter says them.
func entryPieces(e api.Entry) []any {
	if e.Gone {
		return []any{e.Key, byte(1)}
	}
	return []any{e.Key, byte(0), e.Value}
}

// pieces are the bytes of a tower as the chapter says them, each number and byte, and each run's bytes, by itself.
func pieces(c api.Config, buffer []api.Entry, runs ...[]byte) []any {
	all := []any{"INT1", c.Eps, c.Buf, c.Keys, len(buffer)}
	for _, e := range buffer {
		all = append(all, entryPieces(e)...)
	}
	all = append(all, len(runs))
	for _, b := range runs {
		all = append(all, len(b), b)
	}
	return all
}

func bytesOf(c api.Config, buffer []api.Entry, runs ...[]byte) []byte {
	return join(pieces(c, buffer, runs...)...)
}

// runOf is the run of some entries; nil of none.
func runOf(t *testing.T, eps int, l ...api.Entry) *run.Run {
	t.Helper()
	if len(l) == 0 {
		return nil
	}
	r, err := run.New(l, eps)
	if err != api.OK {
		t.Fatalf("a run of %v: %d", l, err)
	}
	return r
}

// runBytes are the bytes of the run of some entries; none of none.
func runBytes(t *testing.T, eps int, l ...api.Entry) []byte {
	t.Helper()
	if len(l) == 0 {
		return nil
	}
	return codec.Put(runOf(t, eps, l...))
}

func allRunBytes(t *testing.T, eps int, lists ...[]api.Entry) [][]byte {
	t.Helper()
	var all [][]byte
	for _, l := range lists {
		all = append(all, runBytes(t, eps, l...))
	}
	return all
}

// bytesTold are the bytes of a tower by what it tells.
func bytesTold(x *tower.Tower) []byte {
	var runs [][]byte
	for _, r := range x.Runs() {
		var b []byte
		if r != nil {
			b = codec.Put(r)
		}
		runs = append(runs, b)
	}
	return bytesOf(x.Config(), x.Buffer(), runs...)
}

// plain is the plain map.
type plain map[uint64]uint64

// plainOf is the plain map of a tower's entries, by what it tells.
func plainOf(x *tower.Tower) plain {
	p := plain{}
	for _, r := range slices.Backward(x.Runs()) {
		if r != nil {
			p.lay(r.List())
		}
	}
	p.lay(x.Buffer())
	return p
}

// lay takes newer entries.
func (p plain) lay(l []api.Entry) {
	for _, e := range l {
		p[e.Key] = e.Value
		if e.Gone {
			delete(p, e.Key)
		}
	}
}

func (p plain) span(from, to uint64) []api.Pair {
	var l []api.Pair
	for _, k := range slices.Sorted(maps.Keys(p)) {
		if k >= from && k <= to {
			l = append(l, api.Pair{Key: k, Value: p[k]})
		}
	}
	return l
}

// do is what the plain map answers, which may have most keys.
func (p plain) do(o api.Op, most int) api.Answer {
	v, is := p[o.Key]
	switch o.Kind {
	case api.OpPut:
		if !is && len(p) == most {
			return api.Answer{Code: api.ErrFull}
		}
		p[o.Key] = o.Value
		return api.Answer{}
	case api.OpDelete:
		delete(p, o.Key)
		return api.Answer{Is: is}
	case api.OpGet:
		return api.Answer{Is: is, Value: v}
	case api.OpFloor:
		if l := p.span(0, o.Key); len(l) > 0 {
			return api.Answer{Is: true, Key: l[len(l)-1].Key, Value: l[len(l)-1].Value}
		}
		return api.Answer{}
	case api.OpCeil:
		if l := p.span(o.Key, top); len(l) > 0 {
			return api.Answer{Is: true, Key: l[0].Key, Value: l[0].Value}
		}
		return api.Answer{}
	case api.OpRank:
		if o.Key == 0 {
			return api.Answer{}
		}
		return api.Answer{Num: len(p.span(0, o.Key-1))}
	case api.OpRange:
		return api.Answer{List: p.span(o.Key, o.Value)}
	}
	return api.Answer{Code: api.ErrArg}
}

func same(a, b api.Answer) bool {
	lists := slices.Equal(a.List, b.List)
	return lists && a.Code == b.Code && a.Is == b.Is && a.Key == b.Key && a.Value == b.Value && a.Num == b.Num
}

// made is a tower with these entries in its buffer, and these in its classes.
func made(t *testing.T, c api.Config, buffer []api.Entry, lists ...[]api.Entry) *tower.Tower {
	t.Helper()
	var runs []*run.Run
	for _, l := range lists {
		runs = append(runs, runOf(t, c.Eps, l...))
	}
	x, err := tower.Of(c, buffer, runs)
	if err != api.OK {
		t.Fatalf("a tower of %v, %v: %d", buffer, lists, err)
	}
	return x
}

// grown is a tower behind n changes of keys below a number (0: any), of which one in so many is a delete.
func grown(t *testing.T, c api.Config, n int, below, deletes uint64, next func() uint64) *tower.Tower {
	t.Helper()
	x := made(t, c, nil)
	for range n {
		k := next()
		if below > 0 {
			k %= below
		}
		if next()%deletes == 0 {
			x.Delete(k)
		} else {
			x.Put(k, next())
		}
	}
	return x
}

// loosened is a run with the same entries, whose segments predict otherwise as often as may be, each by an Intercept that is higher or lower (a -0 among them); above its root stand more levels.
func loosened(t *testing.T, r *run.Run, next func() uint64) *run.Run {
	t.Helper()
	ls := r.Levels()
	for _, level := range ls {
		for i := range level {
			was := level[i]
			level[i].Intercept = []float64{was.Intercept + 0.5, was.Intercept - 0.75, was.Intercept + 1, math.Copysign(0, -1)}[next()%4]
			if other, err := run.Of(r.List(), r.Eps(), ls); err == api.OK {
				r = other
			} else {
				level[i] = was
			}
		}
	}
	for range next() % 4 {
		ls = append(ls, []api.Segment{{First: r.Key(0, 0), To: 1}})
	}
	other, err := run.Of(r.List(), r.Eps(), ls)
	if err != api.OK {
		t.Fatalf("loosened: %d", err)
	}
	return other
}

// loose is a tower like another one, with runs that nobody would build.
func loose(t *testing.T, x *tower.Tower, next func() uint64) *tower.Tower {
	t.Helper()
	runs := x.Runs()
	for class, r := range runs {
		if r != nil {
			runs[class] = loosened(t, r, next)
		}
	}
	y, err := tower.Of(x.Config(), x.Buffer(), runs)
	if err != api.OK {
		t.Fatalf("a tower of loosened runs: %d", err)
	}
	return y
}

// allClasses are a list for each class, one key in each; with one key in all, which is dead and live by turns.
func allClasses() (own, turns [][]api.Entry) {
	for class := range uint64(api.MaxClass) {
		own = append(own, list(put(class*7%api.MaxClass*10, class)))
		turns = append(turns, list(api.Entry{Key: 50, Gone: class%2 == 0}))
	}
	return own, turns
}

// few are small towers of all kinds: entries in the buffer alone, in one run, in several with empty classes between them, with tombstones in the buffer and in runs.
func few(t *testing.T) []*tower.Tower {
	t.Helper()
	one := api.Config{Eps: 64, Buf: 1, Keys: 1}
	return []*tower.Tower{
		made(t, small, nil),
		made(t, one, nil),
		made(t, small, list(put(10, 7))),
		made(t, small, list(dead(10))),
		made(t, small, list(put(0, 0), dead(9), put(top, top))), // Buf - 1 entries
		made(t, one, nil, list(put(top, 1))),
		made(t, small, nil, fresh(1, 4)),
		made(t, small, list(dead(2), put(3, 1), dead(50)), fresh(1, 4)),
		made(t, small, nil, nil, fresh(1, 8)),
		made(t, small, list(put(1, 1)), list(put(1, 2), dead(3)), nil, nil, list(put(1, 4), put(3, 3), put(5, 5)), nil, list(put(8, 8))),
		made(t, small, list(dead(1)), tombs(1, 3), list(dead(4), put(5, 5)), list(put(1, 1), put(2, 2), put(3, 3), put(4, 4)), nil, fresh(20, 2)),
		made(t, api.Config{Eps: 3, Buf: 2, Keys: 8}, list(put(9, 9)), nil, list(dead(0), dead(top)), list(put(0, 1), put(top, 2))),
	}
}

// towers hands over towers of all kinds: few's, those with many classes and great ones, with runs that are built and with others.
func towers(t *testing.T, do func(x *tower.Tower)) {
	t.Helper()
	next := scatter()
	all := few(t)
	own, turns := allClasses()
	for _, c := range []api.Config{
		{Eps: 2, Buf: 1, Keys: 1},
		{Eps: 64, Buf: api.MaxRun - 2, Keys: 1},
		{Eps: 3, Buf: 2, Keys: (api.MaxRun - 2) / 2},
		{Eps: 63, Buf: 1 << 31, Keys: 1 << 30},
	} {
		all = append(all, made(t, c, nil), made(t, c, nil, list(put(5, 6))), made(t, c, nil, nil, nil, list(put(0, top))))
	}
	all = append(all,
		made(t, small, fresh(5, 3), own...),
		made(t, small, nil, turns...),
		made(t, small, nil, append(make([][]api.Entry, api.MaxClass-1), fresh(1, 30))...),
		made(t, small, tombs(8, 3), append(append([][]api.Entry{tombs(1, 4)}, make([][]api.Entry, api.MaxClass-2)...), fresh(1, 30))...),
		made(t, api.Config{Eps: 2, Buf: 500, Keys: 600}, fresh(1, 499)),
		made(t, api.Config{Eps: 2, Buf: 500, Keys: 600}, tombs(1, 499), nil, fresh(1, 600)),
	)
	for _, buf := range []int{1, 2, 3, 7, 30} {
		for _, below := range []uint64{0, 6, 60, 1000} {
			for _, n := range []int{5, 50, 130} {
				c := api.Config{Eps: 2 + int(next()%4), Buf: buf, Keys: 1 + int(next()%200)}
				all = append(all, grown(t, c, n, below, 2+next()%4, next))
			}
		}
	}
	all = append(all, grown(t, api.Config{Eps: 2, Buf: 64, Keys: 5000}, 3000, 0, 5, next))
	for _, x := range all {
		do(x)
		if len(x.Runs()) > 0 {
			do(loose(t, x, next))
		}
	}
}

// asked are some keys about those that a tower has entries of, and those at both ends.
func asked(x *tower.Tower, next func() uint64) []uint64 {
	l := []uint64{0, 1, 1 << 63, top - 1, top, next()}
	lists := [][]api.Entry{x.Buffer()}
	for _, r := range x.Runs() {
		if r != nil {
			lists = append(lists, r.List())
		}
	}
	for _, entries := range lists {
		for i := 0; i < len(entries); i += 1 + int(next()%uint64(1+len(entries)/3)) {
			k := entries[i].Key
			l = append(l, k-1, k, k+1)
		}
	}
	slices.Sort(l)
	return slices.Compact(l)
}

// hold fails, unless a tower answers as the plain map does.
func hold(t *testing.T, x *tower.Tower, p plain, next func() uint64) {
	t.Helper()
	if n := x.Stats().Live; n != len(p) {
		t.Fatalf("%d are live, not %d", n, len(p))
	}
	for i, q := range asked(x, next) {
		for kind := api.OpGet; kind <= api.OpRange+1; kind++ {
			if len(p) > 500 && i%5 > 0 && kind > api.OpGet {
				continue // the plain map is slow
			}
			o := api.Op{Kind: kind, Key: q, Value: q + next()}
			if got, want := ask.Do(x, o), p.do(o, 0); !same(got, want) {
				t.Fatalf("%v: %v, not %v", o, got, want)
			}
		}
	}
}

// alike fails, unless two towers tell the same but for Builds and Written.
func alike(t *testing.T, x, y *tower.Tower) {
	t.Helper()
	a, b := x.Stats(), y.Stats()
	if x.Config() != y.Config() || a.Live != b.Live || a.Buffered != b.Buffered || !slices.Equal(a.Sizes, b.Sizes) || !slices.Equal(x.Buffer(), y.Buffer()) {
		t.Fatalf("%v, %v, %v, not %v, %v, %v", y.Config(), b, y.Buffer(), x.Config(), a, x.Buffer())
	}
	older, others := x.Runs(), y.Runs()
	if len(older) != len(others) {
		t.Fatalf("%d classes, not %d", len(others), len(older))
	}
	for class, r := range older {
		other := others[class]
		if (r == nil) != (other == nil) || r != nil && !bytes.Equal(codec.Put(r), codec.Put(other)) {
			t.Fatalf("class %d has another run", class)
		}
	}
}

// does fails, unless both towers answer an operation as the plain map does, write no more than they may, and have no runs that are too great.
func does(t *testing.T, x, y *tower.Tower, p plain, o api.Op) {
	t.Helper()
	want := p.do(o, x.Config().Keys)
	for _, z := range []*tower.Tower{x, y} {
		ahead := z.Stats()
		if got := ask.Do(z, o); !same(got, want) {
			t.Fatalf("%v: %v, not %v", o, got, want)
		}
		little(t, z, ahead, o.Kind == api.OpPut && want.Code == api.OK || o.Kind == api.OpDelete && want.Is)
	}
}

// little is P16.7 and P16.8 behind an operation, ahead of which the Stats were these.
func little(t *testing.T, x *tower.Tower, ahead api.Stats, changed bool) {
	t.Helper()
	c, s := x.Config(), x.Stats()
	builds, written := s.Builds-ahead.Builds, s.Written-ahead.Written
	if s.Buffered >= c.Buf || builds < 0 || builds > 1 || (!changed || s.Buffered > 0) && (builds > 0 || written > 0) {
		t.Fatalf("%v: %v, then %v", c, ahead, s)
	}
	for class, n := range s.Sizes {
		if n > 2*c.Keys || n > classes.Most(c.Buf, class) {
			t.Fatalf("%v: class %d has %d entries", c, class, n)
		}
	}
}

// beside changes two towers that are alike, n times, and fails, unless they stay alike and answer as the plain map does.
func beside(t *testing.T, x, y *tower.Tower, n int, next func() uint64) {
	t.Helper()
	p, was, is := plainOf(x), x.Stats(), y.Stats()
	keys := asked(x, next)
	for i := range n {
		o := api.Op{Kind: []int{1, 1, 1, 2, 2, 3, 4, 5, 6, 7}[next()%10], Key: keys[next()%uint64(len(keys))], Value: next()}
		does(t, x, y, p, o)
		a, b := x.Stats(), y.Stats()
		if a.Builds-was.Builds != b.Builds-is.Builds || a.Written-was.Written != b.Written-is.Written {
			t.Fatalf("%v, then %v; the other: %v, then %v", was, a, is, b)
		}
		if i%8 == 0 {
			alike(t, x, y)
			if !bytes.Equal(Save(x), Save(y)) {
				t.Fatalf("behind %d changes other bytes are saved", i)
			}
		}
	}
	alike(t, x, y)
	hold(t, y, p, next)
}

// loaded is Load's tower of bytes that are a tower's.
func loaded(t *testing.T, b []byte) *tower.Tower {
	t.Helper()
	x, err := Load(b)
	if x == nil || err != api.OK {
		t.Fatalf("Load of %x: %v, %v", b, x, err)
	}
	return x
}

// refused fails, unless Load refuses the bytes.
func refused(t *testing.T, name string, b []byte) {
	t.Helper()
	if x, err := Load(b); x != nil || err != api.ErrCorrupt {
		t.Errorf("Load of %q, %x: %v, %v", name, b, x, err)
	}
}

// P20.1, P20.2: the chapter's examples.
func TestExamples(t *testing.T) {
	none := join("INT1", 2, 4, 100, 0, 0)
	if b := Save(made(t, small, nil)); !bytes.Equal(b, none) || len(b) != 44 {
		t.Errorf("an empty tower: %x", b)
	}
	x := loaded(t, none)
	alike(t, made(t, small, nil), x)
	refused(t, "an empty tower with Buf 0", join("INT1", 2, 0, 100, 0, 0))
	refused(t, "an empty tower and a byte", append(slices.Clone(none), 0))
	refused(t, "an empty tower without the last byte", none[:43])
	loaded(t, bytesOf(small, fresh(1, 3)))
	refused(t, "a buffer of Buf entries", bytesOf(small, fresh(1, 4)))
	refused(t, "two entries of one key", bytesOf(small, list(put(1, 1), put(1, 2))))
	refused(t, "a tombstone of a key that is nowhere else", bytesOf(small, nil, runBytes(t, 2, dead(5))))
	refused(t, "a tombstone of a key that no other class has live", bytesOf(small, nil, runBytes(t, 2, dead(5)), runBytes(t, 2, put(6, 1))))
}

// P20.1: a tower's bytes, each by each: a buffer with a tombstone, a class without a run, and two runs.
func TestBytes(t *testing.T) {
	x := made(t, api.Config{Eps: 2, Buf: 0x104, Keys: 100}, list(put(1, 10), dead(0x0203)), list(dead(10)), nil, list(put(10, 7)))
	want := join("INT1", 2, 0x104, 100,
		2, 1, byte(0), 10, 0x0203, byte(1),
		3,
		69, "INC1", 2, 1, 10, byte(1), 1, 1, 1, 0.0, -1.0,
		0,
		77, "INC1", 2, 1, 10, byte(0), 7, 1, 1, 1, 0.0, -1.0)
	if b := Save(x); !bytes.Equal(b, want) {
		t.Errorf("%x, not %x", b, want)
	}
	alike(t, x, loaded(t, want))
}

// P20.1, P20.2, P20.4: towers of all kinds are written as the chapter says, read as they were, with Builds and Written at 0, and written again as these bytes. They are not changed by it.
func TestThereAndBack(t *testing.T) {
	next := scatter()
	classes, inBuffer, inRuns := map[int]int{}, 0, 0
	towers(t, func(x *tower.Tower) {
		was, runs := x.Stats(), x.Runs()
		b := Save(x)
		if want := bytesTold(x); !bytes.Equal(b, want) {
			t.Fatalf("%x, not %x", b, want)
		}
		if s := x.Stats(); s.Builds != was.Builds || s.Written != was.Written || !slices.Equal(runs, x.Runs()) {
			t.Fatalf("Save has changed a tower: %v, not %v", s, was)
		}
		y := loaded(t, b)
		alike(t, x, y)
		if s := y.Stats(); s.Builds != 0 || s.Written != 0 {
			t.Fatalf("Builds %d, Written %d", s.Builds, s.Written)
		}
		if again := Save(y); !bytes.Equal(again, b) {
			t.Fatalf("%x, loaded and saved: %x", b, again)
		}
		hold(t, y, plainOf(x), next)
		classes[len(runs)]++
		inBuffer += deadIn(x.Buffer())
		for _, r := range runs {
			if r != nil {
				inRuns += deadIn(r.List())
			}
		}
	})
	if classes[0] < 5 || classes[1] < 5 || classes[3] < 5 || classes[api.MaxClass] < 5 || inBuffer < 100 || inRuns < 100 {
		t.Errorf("classes: %v, tombstones: %d, %d", classes, inBuffer, inRuns)
	}
}

func deadIn(l []api.Entry) int {
	n := 0
	for _, e := range l {
		if e.Gone {
			n++
		}
	}
	return n
}

// P20.4, P20.5: a tower and what Load makes of it, asked and changed side by side from then on, with merges among the changes.
func TestFromThenOn(t *testing.T) {
	next := scatter()
	built := 0
	towers(t, func(x *tower.Tower) {
		y := loaded(t, Save(x))
		beside(t, x, y, 60, next)
		built += y.Stats().Builds
		beside(t, y, loaded(t, Save(y)), 20, next)
	})
	if built < 500 {
		t.Errorf("%d runs were built", built)
	}
}

// P20.4: each goes its own way: changes of the one don't show in the other.
func TestOwnWay(t *testing.T) {
	next := scatter()
	for _, x := range few(t) {
		b, p := Save(x), plainOf(x)
		y := loaded(t, b)
		for k := range uint64(9) {
			y.Delete(k)
			y.Put(k+20, 1)
		}
		hold(t, x, p, next)
		if !bytes.Equal(Save(x), b) {
			t.Errorf("a change of the one that was loaded shows in the other")
		}
		z := loaded(t, b)
		for k := range uint64(9) {
			x.Delete(k)
			x.Put(k+20, 1)
		}
		hold(t, z, p, next)
	}
}

// P20.2: other first bytes.
func TestHead(t *testing.T) {
	for _, x := range few(t) {
		rest := Save(x)[4:]
		loaded(t, join("INT1", rest))
		for _, head := range []string{"", "I", "INT", "INT2", "INT0", "int1", "INC1", "NINT", "1TNI", "INT11", " INT1", "INT1 ", "INT1INT1", "INT\x00", "JNT1", "IOT1", "INU1"} {
			refused(t, "the head "+head, join(head, rest))
		}
	}
}

// P20.2: configs at their limits, and beyond, near and far.
func TestConfig(t *testing.T) {
	with := func(eps, buf, keys uint64) []byte { return join("INT1", eps, buf, keys, 0, 0) }
	for _, x := range [][3]uint64{{2, 1, 1}, {64, 1, 1}, {3, 1 << 31, 1 << 30}, {2, 1<<32 - 2, 1}, {2, 2, 1<<31 - 1}} {
		y := loaded(t, with(x[0], x[1], x[2]))
		if c := y.Config(); c != (api.Config{Eps: int(x[0]), Buf: int(x[1]), Keys: int(x[2])}) {
			t.Errorf("%v became %v", x, c)
		}
	}
	far := []uint64{0, 1<<32 + 1, 1 << 33, 1<<32 + 4, 1 << 62, 1<<63 + 1, 1<<63 + 4, top - 3, top}
	for _, n := range far {
		refused(t, "no Buf", with(2, n, 100))
		refused(t, "no Keys", with(2, 4, n))
	}
	for _, n := range append(far, 1, 65, 66, 128, 1<<8+2, 1<<32+2, 1<<63+2, 2<<56) {
		refused(t, "no Eps", with(n, 4, 100))
	}
	for _, x := range [][2]uint64{{1 << 32, 1}, {1<<32 - 1, 1}, {1, 1 << 31}, {1, 1 << 32}, {3, 1<<31 - 1}, {1 << 31, 1<<30 + 1}} {
		refused(t, "too great together", with(2, x[0], x[1]))
	}
}

// P20.2: every beginning of a tower's bytes, and bytes behind them.
func TestJustSo(t *testing.T) {
	for _, x := range few(t) {
		b := Save(x)
		for end := range b {
			refused(t, "a beginning", b[:end])
		}
		for _, more := range [][]byte{{0}, {1}, {255}, make([]byte, 8), []byte("INT1"), b, join(1, byte(1))} {
			refused(t, "bytes with more behind them", slices.Concat(b, more))
		}
		loaded(t, b)
	}
	refused(t, "nothing", nil)
	refused(t, "nothing", []byte{})
}

// P20.2: how many entries the buffer may have, by which keys, and of which kinds.
func TestBuffer(t *testing.T) {
	for _, buf := range []int{1, 2, 5, 200} {
		c := api.Config{Eps: 2, Buf: buf, Keys: 1000}
		for n := range buf {
			alike(t, made(t, c, fresh(7, n)), loaded(t, bytesOf(c, fresh(7, n))))
			alike(t, made(t, c, tombs(7, n)), loaded(t, bytesOf(c, tombs(7, n))))
		}
		for _, n := range []int{buf, buf + 1, 2 * buf, 1000} {
			refused(t, "Buf entries or more", bytesOf(c, fresh(7, n)))
			refused(t, "Buf tombstones or more", bytesOf(c, tombs(7, n)))
		}
	}
	for _, ks := range [][]uint64{{5, 5}, {5, 4}, {0, 0}, {top, 0}, {top, top}, {1, 2, 2}, {1, 3, 2}, {3, 3, 4}} {
		var live, gone, mixed []api.Entry
		for i, k := range ks {
			live, gone = append(live, put(k, 1)), append(gone, dead(k))
			mixed = append(mixed, api.Entry{Key: k, Gone: i%2 == 0})
		}
		refused(t, "keys that do not rise", bytesOf(small, live))
		refused(t, "keys that do not rise, of tombstones", bytesOf(small, gone))
		refused(t, "keys that do not rise, of both", bytesOf(small, mixed))
	}
	for kind := range 256 {
		with, without := join("INT1", 2, 4, 100, 1, 10, byte(kind), 7, 0), join("INT1", 2, 4, 100, 1, 10, byte(kind), 0)
		if kind == 0 {
			alike(t, made(t, small, list(put(10, 7))), loaded(t, with))
		} else {
			refused(t, "a value behind no 0", with)
		}
		if kind == 1 {
			alike(t, made(t, small, list(dead(10))), loaded(t, without))
		} else {
			refused(t, "no value behind no 1", without)
		}
	}
}

// P20.2: how many classes are told: all that there are, and more; with a last one that has a run, and that has none.
func TestClasses(t *testing.T) {
	own, turns := allClasses()
	for _, lists := range [][][]api.Entry{own, turns} {
		for n := range api.MaxClass + 1 {
			above := allRunBytes(t, 2, lists[api.MaxClass-n:]...)
			below := append(make([][]byte, api.MaxClass-n), above...)
			if n == 0 {
				refused(t, "classes without runs", bytesOf(small, nil, below...))
				continue
			}
			loaded(t, bytesOf(small, nil, above...))
			loaded(t, bytesOf(small, nil, below...))
			refused(t, "a class too many, without a run", bytesOf(small, nil, append(below, nil)...))
			refused(t, "a class too many", bytesOf(small, nil, append(below, runBytes(t, 2, put(99, 1)))...))
			if n < api.MaxClass {
				refused(t, "a last class without a run", bytesOf(small, nil, append(above, nil)...))
			}
		}
	}
	for n := 1; n < api.MaxClass+9; n++ {
		refused(t, "classes without runs", bytesOf(small, nil, make([][]byte, n)...))
		refused(t, "a run of class 0, and classes without one", bytesOf(small, nil, append([][]byte{runBytes(t, 2, put(1, 1))}, make([][]byte, n)...)...))
	}
}

// P20.2: a number of bytes that is not the run's, and bytes that are none.
func TestRunBytes(t *testing.T) {
	r := runBytes(t, 2, fresh(1, 3)...)
	before := join("INT1", 2, 4, 100, 1, 9, byte(1), 2)
	other := runBytes(t, 2, put(20, 20))
	loaded(t, join(before, len(r), r, len(other), other))
	for n := range len(r) + len(other) + 30 {
		if n != len(r) {
			refused(t, "another number of bytes", join(before, n, r, len(other), other))
			refused(t, "another number of bytes of the last run", join(before, len(other), other, n, r))
		}
	}
	for end := range r {
		if end > 0 {
			refused(t, "a beginning of a run's bytes", join(before, end, r[:end], len(other), other))
		}
	}
	refused(t, "a run's bytes and one more", join(before, len(r)+1, r, byte(0), len(other), other))
	refused(t, "two runs' bytes", join(before, len(r)+len(other), r, other, len(other), other))
	refused(t, "a tower's bytes", join(before, 44, Save(made(t, small, nil)), len(other), other))
	for _, b := range [][]byte{{0}, {255}, make([]byte, 8), make([]byte, 28), []byte("INC1")} {
		refused(t, "no run's bytes", join(before, len(b), b, len(other), other))
		refused(t, "no run's bytes", join(before, len(other), other, len(b), b))
	}
	turned := slices.Clone(r)
	turned[len(turned)-16] ^= 0x80 // the slope is below 0, or -0
	refused(t, "a run that codec.Get refuses", join(before, len(turned), turned, len(other), other))
}

// P20.2: each way in which tower.Of takes no such config, entries and runs.
func TestRefusedByTheTower(t *testing.T) {
	none, err := run.New(nil, 2)
	if err != api.OK {
		t.Fatal(err)
	}
	c := api.Config{Eps: 2, Buf: 4, Keys: 20}
	with := func(eps int, lists ...[]api.Entry) []byte { return bytesOf(c, nil, allRunBytes(t, eps, lists...)...) }
	loaded(t, with(2, fresh(1, 4)))
	refused(t, "runs of another Eps", with(3, fresh(1, 4)))
	refused(t, "runs of the greatest Eps", with(64, fresh(1, 4)))
	refused(t, "a run of another Eps above", bytesOf(c, nil, runBytes(t, 2, put(1, 1)), nil, runBytes(t, 3, put(2, 2))))
	refused(t, "a run without entries", bytesOf(c, nil, codec.Put(none)))
	refused(t, "a run without entries ahead of one", bytesOf(c, nil, codec.Put(none), runBytes(t, 2, put(1, 1))))
	refused(t, "a run without entries behind one", bytesOf(c, nil, runBytes(t, 2, put(1, 1)), codec.Put(none)))
	for class := range 3 {
		most := classes.Most(c.Buf, class)
		loaded(t, with(2, append(make([][]api.Entry, class), fresh(1, most))...))
		refused(t, "too many entries for the class", with(2, append(make([][]api.Entry, class), fresh(1, most+1))...))
	}
	loaded(t, with(2, tombs(1, 4), fresh(1, 4)))
	loaded(t, with(2, list(dead(1)), nil, list(put(1, 2)), list(dead(1)), list(put(1, 1))))
	refused(t, "a tombstone of a key that a newer class has live", with(2, list(put(1, 1)), list(dead(1))))
	refused(t, "a tombstone of a key that is dead above", with(2, list(dead(1)), list(dead(1)), list(put(1, 1))))
	refused(t, "a tombstone too many", with(2, tombs(1, 4), fresh(1, 3)))
	refused(t, "a tombstone of a key that the buffer has live", bytesOf(c, list(put(1, 1)), runBytes(t, 2, dead(1))))
	loaded(t, with(2, nil, nil, nil, fresh(1, 20)))
	refused(t, "too many live keys in a run", with(2, nil, nil, nil, fresh(1, 21)))
	refused(t, "too many live keys in the runs", with(2, fresh(50, 1), nil, nil, fresh(1, 20)))
	refused(t, "too many live keys in the older runs", with(2, tombs(1, 4), nil, nil, fresh(1, 21)))
	older := runBytes(t, 2, fresh(1, 20)...)
	loaded(t, bytesOf(c, list(dead(1), put(2, 2), put(50, 1)), nil, nil, nil, older))
	refused(t, "too many live keys with the buffer's", bytesOf(c, list(put(50, 1)), nil, nil, nil, older))
	refused(t, "too many live keys without the buffer's", bytesOf(c, list(dead(1), dead(2)), nil, nil, nil, runBytes(t, 2, fresh(1, 21)...)))
}

// greats are numbers of things that no few bytes have: those about limits among them, and those that are few once they are multiplied, and cut to 64 bits.
func greats() []uint64 {
	l := []uint64{41, 100, 1 << 10, 1 << 20, 1 << 26, 1<<31 - 1, 1 << 31, 1<<32 - 1, 1 << 32, 1<<32 + 1, 1 << 40, 1 << 56, 1 << 60, 1 << 61, 1 << 62, 1<<63 - 1, 1 << 63, top - 1, top}
	for _, size := range []uint64{8, 9, 16, 17, 24, 32} {
		l = append(l, top/size, top/size+1, top/size+2, (1<<63)/size, (1<<63)/size+1)
	}
	return l
}

// ahead are bytes with a great number of entries, of classes or of a run's bytes in them, and fewer bytes behind it.
func ahead(t *testing.T) [][]byte {
	t.Helper()
	r := runBytes(t, 2, put(10, 7))
	const keys = 1 << 20
	var all [][]byte
	for _, n := range greats() {
		for _, rest := range [][]byte{nil, make([]byte, 3), make([]byte, 8), make([]byte, 40), join(1, byte(1), 2, byte(1)), r[:30]} {
			for _, about := range [][]byte{
				join("INT1", 2, 1<<31, keys),
				join("INT1", 2, 1<<32-2*keys, keys, n, 1, byte(1)),
				join("INT1", 2, 4, keys, 0),
				join("INT1", 2, 4, keys, 1, 10, byte(0), 7),
				join("INT1", 2, 4, keys, 0, n),
				join("INT1", 2, 4, keys, 0, 1),
				join("INT1", 2, 4, keys, 0, 40, 0, 0),
				join("INT1", 2, 4, keys, 0, 2, len(r), r),
				join("INT1", 2, 4, keys, 0, n, len(r), r),
			} {
				all = append(all, join(about, n, rest))
			}
		}
	}
	return all
}

// P20.2, P20.3: a great number of entries, of classes or of a run's bytes ahead of few bytes is refused.
func TestGreatNumbers(t *testing.T) {
	for _, b := range ahead(t) {
		refused(t, "a great number", b)
	}
	refused(t, "a class too many", join("INT1", 2, 4, 100, 0, 41, make([]byte, 41*8)))
}

// roomOf is how much memory Load asks for, all of it, be it given back or not.
func roomOf(b []byte) uint64 {
	least := uint64(top)
	for range 3 { // whatever else asks for memory now and then does not count
		var was, is runtime.MemStats
		runtime.ReadMemStats(&was)
		Load(b)
		runtime.ReadMemStats(&is)
		least = min(least, is.TotalAlloc-was.TotalAlloc)
	}
	return least
}

// P20.3: Load asks for no more memory than some times what the bytes have.
func TestLittleMemory(t *testing.T) {
	check := func(name string, b []byte) {
		t.Helper()
		if n := roomOf(b); n > 4000+60*uint64(len(b)) {
			t.Errorf("%s: %d bytes of memory for %d bytes", name, n, len(b))
		}
	}
	for i, b := range ahead(t) {
		if i%7 == 0 {
			check("a great number", b)
		}
	}
	towers(t, func(x *tower.Tower) {
		b := Save(x)
		check("a tower", b)
		check("a tower that ends too early", b[:len(b)-1])
	})
	for _, n := range []int{1000, 100000} {
		check("noughts", join("INT1", 2, 1<<31, 1000, n/9, make([]byte, n)))
		check("tombstones, as many as may be, and fewer bytes", join("INT1", 2, 1<<31, 1000, 1<<32, bytes.Repeat(join(1, byte(1)), n/9)))
		check("a run of noughts", join("INT1", 2, 4, 1000, 0, 1, n, make([]byte, n)))
		check("a run's bytes that go on and on", join("INT1", 2, 4, 1000, 0, 1, 1<<40, make([]byte, n)))
		check("entries of a run, and fewer bytes", join("INT1", 2, 4, 1000, 0, 1, n+20, "INC1", 2, 1<<32, make([]byte, n)))
	}
}

// part reads bytes as the chapter's list says it.
type part struct {
	b   []byte
	bad bool
}

func (p *part) take(n uint64) []byte {
	if p.bad || n > uint64(len(p.b)) {
		p.bad = true
		return nil
	}
	l := p.b[:n]
	p.b = p.b[n:]
	return l
}

func (p *part) word() uint64 {
	if b := p.take(8); b != nil {
		return binary.BigEndian.Uint64(b)
	}
	return 0
}

func (p *part) entry() api.Entry {
	e := api.Entry{Key: p.word()}
	kind := p.take(1)
	switch {
	case kind == nil || kind[0] > 1:
		p.bad = true
	case kind[0] == 1:
		e.Gone = true
	default:
		e.Value = p.word()
	}
	return e
}

func (p *part) run() *run.Run {
	b := p.take(p.word())
	if len(b) == 0 {
		return nil
	}
	r, err := codec.Get(b)
	p.bad = p.bad || err != api.OK
	return r
}

// plainLoad is what the chapter asks of Load.
func plainLoad(b []byte) *tower.Tower {
	p := &part{b: b}
	if string(p.take(4)) != "INT1" {
		return nil
	}
	eps, buf, keys, n := p.word(), p.word(), p.word(), p.word()
	if max(eps, buf, keys, n) > api.MaxRun {
		return nil
	}
	var buffer []api.Entry
	for ; n > 0 && !p.bad; n-- {
		buffer = append(buffer, p.entry())
	}
	var runs []*run.Run
	for n = p.word(); n > 0 && !p.bad; n-- {
		runs = append(runs, p.run())
	}
	if p.bad || len(p.b) > 0 || len(runs) > api.MaxClass || len(runs) > 0 && runs[len(runs)-1] == nil {
		return nil
	}
	x, err := tower.Of(api.Config{Eps: int(eps), Buf: int(buf), Keys: int(keys)}, buffer, runs)
	if err != api.OK {
		return nil
	}
	return x
}

// held fails, unless Load takes the bytes just if the chapter does, as what it says they are; a tower that is answered is written as these bytes, and answers as the plain map does, behind so many changes too. It tells whether the bytes were taken.
func held(t *testing.T, b []byte, changes int, next func() uint64) bool {
	t.Helper()
	was := slices.Clone(b)
	x, err := Load(b)
	want := plainLoad(b)
	if !bytes.Equal(b, was) {
		t.Fatalf("the bytes %x have become %x", was, b)
	}
	if want == nil {
		if x != nil || err != api.ErrCorrupt {
			t.Fatalf("Load of %x: %v, %v, not ErrCorrupt", b, x, err)
		}
		return false
	}
	if x == nil || err != api.OK {
		t.Fatalf("Load of %x: %v, %v, not a tower", b, x, err)
	}
	alike(t, want, x)
	if s := x.Stats(); s.Builds != 0 || s.Written != 0 {
		t.Fatalf("Load of %x: %v", b, s)
	}
	if again := Save(x); !bytes.Equal(again, b) {
		t.Fatalf("%x, loaded and saved: %x", b, again)
	}
	beside(t, want, x, changes, next)
	return true
}

// T4, P20.2, P20.4, P20.5: one bit turned, wherever it is: refused, or a tower that is written as these bytes.
func TestEveryBit(t *testing.T) {
	next := scatter()
	took := map[bool]int{}
	for _, x := range few(t) {
		b := Save(x)
		for at := range 8 * len(b) {
			other := slices.Clone(b)
			other[at/8] ^= 1 << (at % 8)
			took[held(t, other, at%3, next)]++
		}
	}
	if min(took[true], took[false]) < 1000 {
		t.Errorf("taken: %v", took)
	}
}

// turned are pieces of a tower's bytes, changed in one place.
func turned(all []any, next func() uint64) []any {
	all = slices.Clone(all)
	at := int(next() % uint64(len(all)))
	switch x := all[at].(type) {
	case int:
		all[at] = x + int(next()%3) - 1
	case uint64:
		all[at] = x + next()
	case byte:
		all[at] = byte(next() % 3)
	case []byte:
		if len(x) > 0 {
			x = slices.Clone(x)
			x[next()%uint64(len(x))] ^= 1 << (next() % 8)
			all[at] = x
		}
	}
	switch next() % 8 {
	case 0:
		all = slices.Delete(all, at, at+1)
	case 1:
		all = slices.Insert(all, at, all[at])
	}
	return all
}

// P20.2, P20.4, P20.5: the bytes of towers of all kinds, changed here and there, runs of one taken over into another, and any bytes.
func TestAnyBytes(t *testing.T) {
	next := scatter()
	took := map[bool]int{}
	var others [][]byte
	towers(t, func(x *tower.Tower) {
		var runs [][]byte
		for _, r := range x.Runs() {
			var b []byte
			if r != nil {
				b = codec.Put(r)
				others = append(others, b)
			}
			runs = append(runs, b)
		}
		for range 4 {
			b := join(turned(pieces(x.Config(), x.Buffer(), runs...), next)...)
			took[held(t, b, 10, next)]++
			b[next()%uint64(len(b))] ^= 1 << (next() % 8)
			took[held(t, b, 10, next)]++
		}
		if len(runs) > 0 {
			mixed := slices.Clone(runs)
			mixed[next()%uint64(len(mixed))] = others[next()%uint64(len(others))]
			took[held(t, bytesOf(x.Config(), x.Buffer(), mixed...), 10, next)]++
		}
	})
	for range 2000 {
		b := make([]byte, 60+next()%200)
		for i := range b {
			b[i] = byte(next() % 4)
		}
		copy(b, join("INT1", 2+int(next()%63), 1+int(next()%8), 1+int(next()%9), int(next()%4)))
		took[held(t, b, 0, next)]++
	}
	if took[true] < 200 || took[false] < 2000 {
		t.Errorf("taken: %v", took)
	}
}

// R4: bytes that were handed in are neither changed nor kept, nor is what is behind them read; bytes that come out are the caller's, their spare room too.
func TestMemory(t *testing.T) {
	for _, x := range few(t) {
		want := bytesTold(x)
		room := append(slices.Clone(want), "and more behind"...)
		y := loaded(t, room[:len(want)])
		if string(room) != string(want)+"and more behind" {
			t.Fatal("the bytes that were handed in have changed")
		}
		refused(t, "bytes that go on behind their end", room[:len(want)-1])
		clear(room)
		alike(t, x, y)
		a, b := Save(y), Save(y)
		clear(a[:cap(a)])
		if !bytes.Equal(b, want) || !bytes.Equal(Save(y), want) {
			t.Fatal("two answers share memory")
		}
		z := loaded(t, b)
		clear(b[:cap(b)])
		alike(t, x, z)
		alike(t, x, y)
	}
}

// The program's own faults are no corrupt bytes: what something else threw goes on.
func TestToldIsOurs(t *testing.T) {
	defer func() {
		if thrown := recover(); thrown != "a fault" {
			t.Errorf("thrown: %v", thrown)
		}
	}()
	if err := told(api.ErrCorrupt); err != api.ErrCorrupt {
		t.Errorf("told: %v", err)
	}
	told("a fault")
}
