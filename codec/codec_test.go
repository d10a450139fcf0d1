package codec

import (
	"bytes"
	"encoding/binary"
	"math"
	"runtime"
	"slices"
	"testing"

	"incline/api"
	"incline/keys"
	"incline/levels"
	"incline/model"
	"incline/probe"
	"incline/run"
)

const top = math.MaxUint64

var (
	allEps = []int{2, 3, 8, 63, 64}
	five   = []api.Entry{{Key: 10, Value: 1}, {Key: 20, Value: 2}, {Key: 30, Gone: true}, {Key: 40, Value: 4}, {Key: 50, Value: 5}}
	minus0 = math.Copysign(0, -1)
)

// scatter gives words without a pattern, of all lengths, always the same ones.
func scatter() func() uint64 {
	x := uint64(0x9e3779b97f4a7c15)
	next := func() uint64 {
		x ^= x << 13
		x ^= x >> 7
		x ^= x << 17
		return x
	}
	return func() uint64 { return next() >> (next() % 64) }
}

// streams are rising keys of many kinds, n at most (fewer where the next one would be beyond).
func streams(n int) [][]uint64 {
	next := scatter()
	gaps := []func(i int) uint64{
		func(i int) uint64 { return 1 },
		func(i int) uint64 { return 10 },
		func(i int) uint64 { return top / uint64(n) },
		func(i int) uint64 { return 1 + next()%3 },
		func(i int) uint64 { return 1 + next()%1000 },
		func(i int) uint64 { return 1 + next()%(top/uint64(n)) },
		func(i int) uint64 { return uint64(i + 1) },
		func(i int) uint64 { return 1 << min(i/3, 62) },
		func(i int) uint64 { return 1<<30*uint64(i%13/12) + 1 },
		func(i int) uint64 { return 1<<57>>min(i, 57) + 1 },
		func(i int) uint64 { return 1 + 1000*uint64(1-i/15%2) },
	}
	var all [][]uint64
	for g, gap := range gaps {
		k := []uint64{0, 7, 1 << 33}[g%3]
		l := []uint64{k}
		for i := 1; i < n; i++ {
			d := gap(i)
			if d > top-k {
				l = append(l, top)
				break
			}
			k += d
			l = append(l, k)
		}
		all = append(all, l)
	}
	return all
}

// nested are base^digits keys: blocks of blocks of blocks, each so far from the next one (the more digits, the further) that no line with 2 * eps = base goes on from one to the other, on any level.
func nested(base, digits, bits int) []uint64 {
	l := []uint64{0}
	for d := range digits {
		var more []uint64
		for i := range base {
			for _, k := range l {
				more = append(more, uint64(i)<<(d*bits)+k)
			}
		}
		l = more
	}
	return l
}

// piled are keys with which there are many levels, for some eps.
func piled(eps int) []uint64 {
	switch eps {
	case 2:
		return nested(4, 5, 7)
	case 3:
		return nested(6, 4, 9)
	case 8:
		return nested(16, 3, 12)
	case 64:
		return nested(128, 2, 20)
	}
	return nil
}

// filled are entries with these keys: values of all kinds, and tombstones, in some of them everywhere, or nowhere.
func filled(ks []uint64, kind int, next func() uint64) []api.Entry {
	var l []api.Entry
	for _, k := range ks {
		e := api.Entry{Key: k, Value: next()}
		switch {
		case kind%4 == 0 || kind%4 > 1 && next()%3 == 0:
			e.Value, e.Gone = 0, true
		case next()%5 == 0:
			e.Value = []uint64{0, 1, top, k}[next()%4]
		}
		l = append(l, e)
	}
	return l
}

// bases are entries of many kinds, from none on.
func bases(eps int, next func() uint64) [][]api.Entry {
	some := [][]uint64{{0}, {7}, {top}, {0, top}, {0, 1}, {top - 1, top}, {7, 9}, {0, 1, 2, 3, 100, 101, 102}}
	some = append(some, streams(6*eps+20)...)
	if l := piled(eps); l != nil {
		some = append(some, l, l[1:len(l)-1], l[:len(l)/2+1])
	}
	all := [][]api.Entry{nil, {}, five}
	for i, ks := range some {
		all = append(all, filled(ks, i, next))
	}
	return all
}

// heads are the Firsts of a level.
func heads(level []api.Segment) []uint64 {
	var l []uint64
	for _, s := range level {
		l = append(l, s.First)
	}
	return l
}

// copied are levels like l, that share nothing with them.
func copied(l [][]api.Segment) [][]api.Segment {
	var other [][]api.Segment
	for _, level := range l {
		other = append(other, slices.Clone(level))
	}
	return other
}

// sameSegment tells whether two segments are the same, their floats bit by bit.
func sameSegment(a, b api.Segment) bool {
	return a == b && math.Float64bits(a.Slope) == math.Float64bits(b.Slope) && math.Float64bits(a.Intercept) == math.Float64bits(b.Intercept)
}

func sameLevels(a, b [][]api.Segment) bool {
	return slices.EqualFunc(a, b, func(x, y []api.Segment) bool { return slices.EqualFunc(x, y, sameSegment) })
}

// built are the levels over the keys of entries that levels.Build makes.
func built(t *testing.T, l []api.Entry, eps int) [][]api.Segment {
	t.Helper()
	ls, err := levels.Build(keys.Of(l), eps)
	if err != api.OK {
		t.Fatalf("Build of %d keys, eps %d: %v", len(l), eps, err)
	}
	return ls
}

// laid are levels over keys that levels.Build need not make: each level's slots are cut by size.
func laid(t *testing.T, ks []uint64, eps int, size func() int) [][]api.Segment {
	t.Helper()
	var l [][]api.Segment
	for len(ks) > 0 && (len(l) == 0 || len(ks) > 1) {
		var level []api.Segment
		for from := 0; from < len(ks); {
			n := min(size(), len(ks)-from)
			s, err := model.Of(ks[from:from+n], eps, from)
			if err != api.OK {
				t.Fatalf("no segment over %v: %v", ks[from:from+n], err)
			}
			level = append(level, s)
			from += n
		}
		l = append(l, level)
		ks = heads(level)
	}
	return l
}

// loosened are levels like l, each of whose segments predicts otherwise, as long as it is off by at most eps; some Intercepts are -0.
func loosened(ks []uint64, eps int, l [][]api.Segment, next func() uint64) [][]api.Segment {
	l = copied(l)
	for _, level := range l {
		for i, s := range level {
			for range 6 {
				other := s
				other.Intercept += []float64{-64, -2, -1.5, -1, -0.5, 0.5, 1, 1.5, 2, 2.999, 64}[next()%11]
				other.Slope *= []float64{0, 0.5, 0.9, 1, 1, 1, 1.1, 1.5, 2}[next()%9]
				if next()%4 == 0 {
					other.Intercept = math.Copysign(0, -1)
				}
				if off, err := model.Off(other, ks[s.From:s.To]); err == api.OK && off <= eps {
					level[i] = other
				}
			}
		}
		ks = heads(level)
	}
	return l
}

// raised are levels like l, with more of them over the root, as many as there may be.
func raised(eps int, l [][]api.Segment) [][]api.Segment {
	l = copied(l)
	root := l[len(l)-1][0]
	for len(l) < levels.MaxHeight(api.MaxRun, eps) {
		l = append(l, []api.Segment{{First: root.First, Intercept: float64(len(l) % 3), From: 0, To: 1}})
	}
	return l
}

// made is New's run of entries that are right.
func made(t *testing.T, l []api.Entry, eps int) *run.Run {
	t.Helper()
	r, err := run.New(l, eps)
	if err != api.OK || r == nil {
		t.Fatalf("New of %d entries, eps %d: %v, %v", len(l), eps, r, err)
	}
	return r
}

// right hands over runs of entries with levels that are right: of New, and of Of with other levels.
func right(t *testing.T, do func(r *run.Run, l []api.Entry, eps int, ls [][]api.Segment)) {
	t.Helper()
	next := scatter()
	of := func(l []api.Entry, eps int, ls [][]api.Segment) {
		t.Helper()
		r, err := run.Of(l, eps, ls)
		if err != api.OK || r == nil {
			t.Fatalf("Of %d entries, eps %d, %d levels: %v, %v", len(l), eps, len(ls), r, err)
		}
		do(r, l, eps, ls)
	}
	for _, eps := range allEps {
		for _, l := range bases(eps, next) {
			ls := built(t, l, eps)
			do(made(t, l, eps), l, eps, ls)
			if len(l) == 0 {
				continue
			}
			ks := keys.Of(l)
			of(l, eps, loosened(ks, eps, ls, next))
			of(l, eps, raised(eps, ls))
			short := laid(t, ks, eps, func() int { return 2 + int(next()%uint64(2*eps-2)) })
			of(l, eps, loosened(ks, eps, short, next))
		}
	}
}

// asked are keys to ask for: about each of some keys, about the ends of some segments' stretches, and at both ends of all that may be.
func asked(l []api.Entry, ls [][]api.Segment, next func() uint64) []uint64 {
	qs := []uint64{0, 1, top - 1, top, next(), next()}
	about := func(i int) {
		k := l[i].Key
		room := top - k
		if i+1 < len(l) {
			room = l[i+1].Key - k - 1
		}
		qs = append(qs, k, k-min(k, 1), k+min(room, 1), k+room/2, k+room)
	}
	for i := 0; i < len(l); i += 1 + int(next()%uint64(1+len(l)/40)) {
		about(i)
	}
	if len(l) > 0 {
		about(0)
		about(len(l) - 1)
	}
	if len(ls) > 0 {
		for i := 0; i < len(ls[0]); i += 1 + len(ls[0])/20 {
			about(ls[0][i].From)
			about(ls[0][i].To - 1)
		}
	}
	return qs
}

// plainRank is how many keys are below q, and the entry of q, if there is one: each entry is looked at.
func plainRank(l []api.Entry, q uint64) (rank int, e api.Entry, there bool) {
	for _, x := range l {
		if x.Key < q {
			rank++
		}
		if x.Key == q {
			e, there = x, true
		}
	}
	return rank, e, there
}

// tells fails, unless a run tells these entries, this eps and these levels by each call that has no question in it.
func tells(t *testing.T, r *run.Run, l []api.Entry, eps int, ls [][]api.Segment) {
	t.Helper()
	if r.Len() != len(l) || r.Eps() != eps || r.Height() != len(ls) || r.Size(0) != len(l) {
		t.Fatalf("%d entries, %d keys, eps %d, height %d: want %d, %d, %d", r.Len(), r.Size(0), r.Eps(), r.Height(), len(l), eps, len(ls))
	}
	if got := r.List(); !slices.Equal(got, l) {
		t.Fatalf("List: %v, want %v", got, l)
	}
	if got := r.Levels(); !sameLevels(got, ls) {
		t.Fatalf("Levels: %v, want %v", got, ls)
	}
	for i, e := range l {
		if got, err := r.At(i); got != e || err != api.OK || r.Key(0, i) != e.Key {
			t.Fatalf("entry %d: %v, %v, the key %d, want %v", i, got, err, r.Key(0, i), e)
		}
	}
	for i, level := range ls {
		if r.Size(i+1) != len(level) {
			t.Fatalf("level %d: %d slots, want %d", i+1, r.Size(i+1), len(level))
		}
		for slot, s := range level {
			if r.Key(i+1, slot) != s.First || !sameSegment(r.Segment(i+1, slot), s) {
				t.Fatalf("level %d, slot %d: %d, %v, want %v", i+1, slot, r.Key(i+1, slot), r.Segment(i+1, slot), s)
			}
		}
	}
}

// counted is a run that counts which keys are asked for: all else is promoted.
type counted struct {
	*run.Run
	keys map[[2]int]int
}

func (c counted) Key(level, slot int) uint64 {
	c.keys[[2]int{level, slot}]++
	return c.Run.Key(level, slot)
}

// few fails, unless no level was asked for more slots' keys than the bound allows.
func (c counted) few(t *testing.T) {
	t.Helper()
	asked := map[int]int{}
	for at, n := range c.keys {
		asked[at[0]]++
		if n > 1 || asked[at[0]] > 2*c.Eps()+3 || at[1] < 0 || at[1] >= c.Size(at[0]) {
			t.Fatalf("eps %d, level %d, slot %d: asked %d times, of %d keys", c.Eps(), at[0], at[1], n, asked[at[0]])
		}
	}
}

// join lays things down one behind the other: texts and bytes as they are, whole numbers and floats as eight bytes.
func join(things ...any) []byte {
	var b []byte
	for _, x := range things {
		switch x := x.(type) {
		case string:
			b = append(b, x...)
		case []byte:
			b = append(b, x...)
		case byte:
			b = append(b, x)
		case int:
			b = binary.BigEndian.AppendUint64(b, uint64(x))
		case uint64:
			b = binary.BigEndian.AppendUint64(b, x)
		case float64:
			b = binary.BigEndian.AppendUint64(b, math.Float64bits(x))
		default:
			panic("no kind of thing that is laid down")
		}
	}
	return b
}

// pieces are the bytes of a run as the chapter says them, each number, byte and float by itself.
func pieces(l []api.Entry, eps int, ls [][]api.Segment) []any {
	all := []any{"INC1", eps, len(l)}
	for _, e := range l {
		all = append(all, e.Key)
		if e.Gone {
			all = append(all, byte(1))
		} else {
			all = append(all, byte(0), e.Value)
		}
	}
	all = append(all, len(ls))
	for _, level := range ls {
		all = append(all, len(level))
		for _, s := range level {
			all = append(all, s.To, s.Slope, s.Intercept)
		}
	}
	return all
}

// plain reads bytes as the chapter's list says it, with no look at what run.Of says of it.
type plain struct {
	b   []byte
	bad bool
}

func (p *plain) word() uint64 {
	if p.bad || len(p.b) < 8 {
		p.bad = true
		return 0
	}
	n := binary.BigEndian.Uint64(p.b)
	p.b = p.b[8:]
	return n
}

func (p *plain) float() float64 {
	f := math.Float64frombits(p.word())
	if math.IsNaN(f) || math.IsInf(f, 0) {
		p.bad = true
	}
	return f
}

func (p *plain) entry() api.Entry {
	e := api.Entry{Key: p.word()}
	if p.bad || len(p.b) == 0 || p.b[0] > 1 {
		p.bad = true
		return e
	}
	e.Gone = p.b[0] == 1
	p.b = p.b[1:]
	if !e.Gone {
		e.Value = p.word()
	}
	return e
}

func (p *plain) level(below []uint64) []api.Segment {
	var level []api.Segment
	from := uint64(0)
	for n := p.word(); n > 0 && !p.bad; n-- {
		if from >= uint64(len(below)) {
			p.bad = true
			break
		}
		s := api.Segment{First: below[from], From: int(from)}
		from = p.word()
		s.To, s.Slope, s.Intercept = int(from), p.float(), p.float()
		level = append(level, s)
	}
	return level
}

// plainGet is what the chapter asks of Get.
func plainGet(b []byte) (l []api.Entry, eps int, ls [][]api.Segment, taken bool) {
	rest, is := bytes.CutPrefix(b, []byte("INC1"))
	p := &plain{b: rest, bad: !is}
	e := p.word()
	n := p.word()
	if e < 2 || e > 64 || n > 1<<32 {
		return nil, 0, nil, false
	}
	for ; n > 0 && !p.bad; n-- {
		l = append(l, p.entry())
	}
	below := keys.Of(l)
	for h := p.word(); h > 0 && !p.bad; h-- {
		level := p.level(below)
		ls = append(ls, level)
		below = heads(level)
	}
	if p.bad || len(p.b) > 0 {
		return nil, 0, nil, false
	}
	_, err := run.Of(l, int(e), ls)
	return l, int(e), ls, err == api.OK
}

// got is Get's run of bytes that are a run's.
func got(t *testing.T, b []byte) *run.Run {
	t.Helper()
	r, err := Get(b)
	if r == nil || err != api.OK {
		t.Fatalf("Get of %x: %v, %v", b, r, err)
	}
	return r
}

// refused fails, unless Get refuses the bytes.
func refused(t *testing.T, name string, b []byte) {
	t.Helper()
	if r, err := Get(b); r != nil || err != api.ErrCorrupt {
		t.Errorf("Get of %s, %x: %v, %v", name, b, r, err)
	}
}

// P12.1, P12.2: the chapter's examples.
func TestExamples(t *testing.T) {
	none := join("INC1", 2, 0, 0)
	if b := Put(made(t, nil, 2)); !bytes.Equal(b, none) || len(b) != 28 {
		t.Errorf("a run without entries: %x", b)
	}
	one := func(slope, intercept float64) []byte {
		return join("INC1", 2, 1, 10, byte(0), 7, 1, 1, 1, slope, intercept)
	}
	if b := Put(made(t, []api.Entry{{Key: 10, Value: 7}}, 2)); !bytes.Equal(b, one(0, -1)) {
		t.Errorf("a run of one entry: %x", b)
	}
	refused(t, "nothing", nil)
	refused(t, "nothing", []byte{})
	refused(t, "the head alone", []byte("INC1"))
	refused(t, "a byte more", append(none, 0))
	for _, x := range []struct {
		slope, intercept float64
		guess            int
	}{{0, -1, 0}, {0, 2, 1}, {0, -9.5, 0}, {1, -1, 0}} {
		r := got(t, one(x.slope, x.intercept))
		tells(t, r, []api.Entry{{Key: 10, Value: 7}}, 2, [][]api.Segment{{{First: 10, Slope: x.slope, Intercept: x.intercept, From: 0, To: 1}}})
		if v := probe.Path(r, 10); len(v) != 1 || v[0].Guess != x.guess || v[0].Rank != 0 {
			t.Errorf("slope %v, intercept %v: %v, want the Guess %d", x.slope, x.intercept, v, x.guess)
		}
	}
	refused(t, "a slope of -0", one(minus0, -1))
}

// P12.1, P12.2, P12.4: the bytes of runs of New, and of Of with other levels, are those of the chapter's list; they are read as these runs, floats bit by bit, and written again as these bytes.
func TestThereAndBack(t *testing.T) {
	heights, sizes, minus, dead, epss := map[int]int{}, map[int]int{}, 0, 0, map[int]int{}
	right(t, func(r *run.Run, l []api.Entry, eps int, ls [][]api.Segment) {
		want := join(pieces(l, eps, ls)...)
		b := Put(r)
		if !bytes.Equal(b, want) {
			t.Fatalf("%d entries, eps %d, %d levels: %x, want %x", len(l), eps, len(ls), b, want)
		}
		back := got(t, b)
		tells(t, back, l, eps, ls)
		if again := Put(back); !bytes.Equal(again, b) {
			t.Fatalf("%x, read and written: %x", b, again)
		}
		heights[len(ls)]++
		sizes[len(l)]++
		epss[eps]++
		dead += len(l) - keys.Live(l)
		for _, level := range ls {
			for _, s := range level {
				if s.Intercept == 0 && math.Signbit(s.Intercept) {
					minus++
				}
			}
		}
	})
	for _, h := range []int{0, 1, 2, 3, 5, 6, 32} {
		if heights[h] == 0 {
			t.Errorf("heights: %v", heights)
		}
	}
	if min(sizes[0], sizes[1], sizes[2]) < 10 || minus < 10 || dead < 1000 || len(epss) != len(allEps) {
		t.Errorf("sizes: %v, intercepts of -0: %d, tombstones: %d, eps: %v", sizes, minus, dead, epss)
	}
}

// P12.1, P12.4: floats of all kinds, bit by bit: the least ones, the greatest, and -0.
func TestFloatsBitByBit(t *testing.T) {
	for _, slope := range []float64{0, math.SmallestNonzeroFloat64, math.Nextafter(1, 2), 0.1, 2} {
		for _, intercept := range []float64{0, minus0, math.SmallestNonzeroFloat64, -math.SmallestNonzeroFloat64, 0.3, math.Nextafter(1, 0), math.MaxFloat64, -math.MaxFloat64} {
			for _, e := range []api.Entry{{Key: top, Value: top}, {Key: 0, Gone: true}, {Key: 1 << 56}} {
				level := []api.Segment{{First: e.Key, Slope: slope, Intercept: intercept, From: 0, To: 1}}
				b := join(pieces([]api.Entry{e}, 64, [][]api.Segment{level})...)
				r := got(t, b)
				tells(t, r, []api.Entry{e}, 64, [][]api.Segment{level})
				if again := Put(r); !bytes.Equal(again, b) {
					t.Errorf("%x, read and written: %x", b, again)
				}
			}
		}
	}
}

// P12.2: bytes that end too early are refused wherever they end, and bytes with more behind them, whatever it is.
func TestJustSo(t *testing.T) {
	next := scatter()
	cuts := 0
	for i, ks := range [][]uint64{nil, {10}, {0, top}, {5, 6, 7, 8, 100, 101, 102}, nested(4, 3, 7)} {
		for kind := range 3 {
			l := filled(ks, kind, next)
			for _, eps := range []int{2, 64} {
				b := Put(made(t, l, eps))
				for end := range b {
					refused(t, "bytes that end too early", b[:end])
					cuts++
				}
				got(t, b)
				for _, more := range [][]byte{{0}, {1}, {255}, make([]byte, 8), make([]byte, 24), []byte("INC1"), b} {
					refused(t, "bytes with more behind them", slices.Concat(b, more))
				}
				if len(b) < 28 || i > 0 && len(b) < 69 {
					t.Errorf("%d keys: %d bytes", len(ks), len(b))
				}
			}
		}
	}
	if cuts < 5000 {
		t.Errorf("ends: %d", cuts)
	}
}

// P12.2: another head.
func TestHead(t *testing.T) {
	rest := join(2, 1, 10, byte(0), 7, 1, 1, 1, 0.0, -1.0)
	got(t, join("INC1", rest))
	for _, head := range []string{"", "I", "INC", "INC2", "INC0", "inc1", "NINC", "1CNI", "INC11", " INC1", "INC1 ", "INC1INC1", "INC\x00", "JNC1", "IOC1", "IND1"} {
		refused(t, "the head "+head, join(head, rest))
	}
}

// P12.2: Eps beside its limits, with entries and with none, and far beyond.
func TestEps(t *testing.T) {
	for _, eps := range []int{2, 3, 63, 64} {
		tells(t, got(t, join("INC1", eps, 0, 0)), nil, eps, nil)
		tells(t, got(t, join("INC1", eps, 1, 10, byte(1), 1, 1, 1, 0.5, 0.0)), []api.Entry{{Key: 10, Gone: true}}, eps, [][]api.Segment{{{First: 10, Slope: 0.5, To: 1}}})
	}
	for _, eps := range []uint64{0, 1, 65, 66, 128, 255, 256, 1<<8 + 2, 1<<32 + 2, 1<<63 + 2, top - 1, top, 2 << 56} {
		refused(t, "nothing and a wrong eps", join("INC1", eps, 0, 0))
		refused(t, "an entry and a wrong eps", join("INC1", eps, 1, 10, byte(1), 1, 1, 1, 0.5, 0.0))
	}
}

// P12.2: the byte behind a key is 0 or 1.
func TestKindOfEntry(t *testing.T) {
	for kind := range 256 {
		with := join("INC1", 2, 1, 10, byte(kind), 7, 1, 1, 1, 0.0, 0.0)
		without := join("INC1", 2, 1, 10, byte(kind), 1, 1, 1, 0.0, 0.0)
		if kind == 0 {
			tells(t, got(t, with), []api.Entry{{Key: 10, Value: 7}}, 2, [][]api.Segment{{{First: 10, To: 1}}})
		} else {
			refused(t, "a value behind no 0", with)
		}
		if kind == 1 {
			tells(t, got(t, without), []api.Entry{{Key: 10, Gone: true}}, 2, [][]api.Segment{{{First: 10, To: 1}}})
		} else {
			refused(t, "no value behind no 1", without)
		}
	}
}

// P12.2: floats that are no numbers, as either of a segment's, on any level.
func TestNoFloats(t *testing.T) {
	odd := []uint64{0x7ff0000000000000, 0xfff0000000000000, 0x7ff8000000000000, 0x7ff0000000000001, 0xfff8000000000001, 0x7fffffffffffffff, top}
	for _, bits := range odd {
		refused(t, "an odd slope", join("INC1", 2, 1, 10, byte(0), 7, 1, 1, 1, bits, -1.0))
		refused(t, "an odd intercept", join("INC1", 2, 1, 10, byte(0), 7, 1, 1, 1, 0.0, bits))
		refused(t, "an odd slope above", join("INC1", 2, 1, 10, byte(0), 7, 2, 1, 1, 0.0, 0.0, 1, 1, bits, 0.0))
		refused(t, "an odd intercept above", join("INC1", 2, 1, 10, byte(0), 7, 2, 1, 1, 0.0, 0.0, 1, 1, 0.0, bits))
	}
	got(t, join("INC1", 2, 1, 10, byte(0), 7, 2, 1, 1, 0.0, 0.0, 1, 1, 0.0, 0.0))
}

// P12.2: each way in which run.Of takes no such entries, or no such levels; a From with no slot below among them.
func TestRefusedByTheRun(t *testing.T) {
	two := func(k, l uint64) []byte { return join("INC1", 2, 2, k, byte(0), 1, l, byte(1), 1, 1, 2, 0.0, 0.0) }
	got(t, two(3, 4))
	for _, ks := range [][2]uint64{{4, 3}, {3, 3}, {0, 0}, {top, 0}, {top, top}} {
		refused(t, "keys that do not rise", two(ks[0], ks[1]))
	}
	entries := join("INC1", 2, 4, 10, byte(0), 1, 20, byte(0), 2, 30, byte(1), 40, byte(0), 4)
	with := func(things ...any) []byte { return append(slices.Clone(entries), join(things...)...) }
	got(t, with(1, 1, 4, 0.05, 0.0))
	got(t, with(2, 2, 2, 0.1, 0.0, 4, 0.1, 2.0, 1, 2, 0.0, 0.0))
	for _, x := range []struct {
		name string
		b    []byte
	}{
		{"no levels", with(0)},
		{"a level over nothing", join("INC1", 2, 0, 1, 0)},
		{"a segment over nothing", join("INC1", 2, 0, 1, 1, 0, 0.0, 0.0)},
		{"a segment over nothing, as long as one", join("INC1", 2, 0, 1, 1, 1, 0.0, 0.0)},
		{"a level without segments", with(1, 0)},
		{"a level without segments over another", with(2, 1, 4, 0.05, 0.0, 0)},
		{"a segment over a level without segments", with(2, 0, 1, 4, 0.05, 0.0)},
		{"an end too early", with(1, 1, 3, 0.05, 0.0)},
		{"an end too late", with(1, 1, 5, 0.05, 0.0)},
		{"an end of 0", with(1, 1, 0, 0.05, 0.0)},
		{"an end far off", with(1, 1, api.MaxRun+4, 0.05, 0.0)},
		{"an end without a bound", with(1, 1, uint64(top), 0.05, 0.0)},
		{"an end that is one as a narrow number", with(1, 1, uint64(1<<63+4), 0.05, 0.0)},
		{"two segments, the other without slots", with(2, 2, 4, 0.05, 0.0, 4, 0.0, 2.0, 1, 2, 0.0, 0.0)},
		{"a From with no slot below, and a To behind it", with(2, 2, 4, 0.05, 0.0, 5, 0.0, 2.0, 1, 2, 0.0, 0.0)},
		{"a From far behind the last slot", with(2, 2, api.MaxRun, 0.05, 0.0, 4, 0.0, 2.0, 1, 2, 0.0, 0.0)},
		{"a From with no slot above level 1", with(2, 1, 4, 0.05, 0.0, 2, 1, 0.0, 0.0, 2, 0.0, 0.0)},
		{"an end that falls", with(2, 3, 3, 0.05, 0.0, 2, 0.0, 2.0, 4, 0.0, 0.0, 1, 3, 0.0, 0.0)},
		{"a gap above", with(2, 2, 2, 0.1, 0.0, 4, 0.1, 2.0, 1, 1, 0.0, 0.0)},
		{"a slope of 3", with(1, 1, 4, 3.0, 0.0)},
		{"a slope just above 2", with(1, 1, 4, math.Nextafter(2, 3), -60.0)},
		{"a slope below 0", with(1, 1, 4, -math.SmallestNonzeroFloat64, 2.0)},
		{"a slope of -0", with(1, 1, 4, minus0, 2.0)},
		{"too high", with(1, 1, 4, 0.0, 3.0)},
		{"too low", with(1, 1, 4, 0.0, 0.0)},
		{"too high above", with(2, 4, 1, 0.0, 0.0, 2, 0.0, 1.0, 3, 0.0, 2.0, 4, 0.0, 3.0, 1, 4, 0.0, 3.0)},
		{"no root", with(1, 2, 2, 0.1, 0.0, 4, 0.1, 2.0)},
	} {
		refused(t, x.name, x.b)
	}
	got(t, with(2, 4, 1, 0.0, 0.0, 2, 0.0, 1.0, 3, 0.0, 2.0, 4, 0.0, 3.0, 1, 4, 0.0, 2.0))
	for _, eps := range allEps {
		ls := raised(eps, built(t, five, eps))
		got(t, join(pieces(five, eps, ls)...))
		refused(t, "one level too many", join(pieces(five, eps, append(ls, []api.Segment{{First: 10, To: 1}}))...))
	}
}

// greats are numbers of things that no few bytes have: those about limits among them, and those that are few once they are multiplied, and cut to 64 bits.
func greats() []uint64 {
	l := []uint64{4, 5, 9, 1 << 10, 1 << 20, 1 << 26, 1<<31 - 1, 1 << 31, 1<<32 - 1, 1 << 32, 1<<32 + 1, 1 << 40, 1 << 56, 1 << 60, 1 << 61, 1 << 62, 1<<63 - 1, 1 << 63, top - 1, top}
	for _, size := range []uint64{8, 9, 16, 17, 24, 40} {
		l = append(l, top/size, top/size+1, top/size+2, (1<<63)/size, (1<<63)/size+1)
	}
	return l
}

// ahead are bytes with a great number of entries, of levels or of segments in them, and fewer bytes behind it, but not always few.
func ahead() [][]byte {
	var all [][]byte
	for _, n := range greats() {
		for _, rest := range [][]byte{nil, make([]byte, 3), make([]byte, 8), join(1, 1, 0.0), make([]byte, 30)} {
			for _, about := range [][]byte{
				join("INC1", 2),
				join("INC1", 2, n, 10, byte(0), 7),
				join("INC1", 2, 0),
				join("INC1", 2, 1, 10, byte(0), 7),
				join("INC1", 2, 1, 10, byte(0), 7, n),
				join("INC1", 2, 1, 10, byte(0), 7, 1),
				join("INC1", 2, 1, 10, byte(0), 7, 2, 1, 1, 0.0, 0.0),
				join("INC1", 2, 1, 10, byte(0), 7, n, 1, 1, 0.0, 0.0),
			} {
				all = append(all, join(about, n, rest))
			}
		}
	}
	return all
}

// P12.2, P12.3: a great number of entries, of levels or of segments ahead of few bytes is refused.
func TestGreatNumbers(t *testing.T) {
	for _, b := range ahead() {
		refused(t, "a great number", b)
	}
}

// roomOf is how much memory Get asks for, all of it, be it given back or not.
func roomOf(b []byte) uint64 {
	least := uint64(top)
	for range 3 { // whatever else asks for memory now and then does not count
		var was, is runtime.MemStats
		runtime.ReadMemStats(&was)
		Get(b)
		runtime.ReadMemStats(&is)
		least = min(least, is.TotalAlloc-was.TotalAlloc)
	}
	return least
}

// P12.3: Get asks for no more memory than some times what the bytes have.
func TestLittleMemory(t *testing.T) {
	next := scatter()
	check := func(name string, b []byte) {
		t.Helper()
		if n := roomOf(b); n > 2000+40*uint64(len(b)) {
			t.Errorf("%s: %d bytes of memory for %d bytes", name, n, len(b))
		}
	}
	for i, b := range ahead() {
		if i%7 == 0 {
			check("a great number", b)
		}
	}
	for _, eps := range []int{2, 64} {
		for kind := range 3 {
			l := filled(nested(4, 5, 7), kind, next)
			b := Put(made(t, l, eps))
			check("a run", b)
			check("a run that ends too early", b[:len(b)-1])
		}
	}
	for _, n := range []int{1000, 100000} {
		check("noughts", join("INC1", 2, n/9, make([]byte, n)))
		check("levels without segments", join("INC1", 2, 0, n/8, make([]byte, n)))
		check("levels without segments over an entry", join("INC1", 2, 1, 10, byte(0), 7, n/8, make([]byte, n)))
		check("segments that are all noughts", join("INC1", 2, 1, 10, byte(0), 7, 1, n/24, make([]byte, n)))
		check("segments, as many as may be, and fewer bytes", join("INC1", 2, 1, 10, byte(0), 7, 1, 1<<32, make([]byte, n)))
		check("tombstones, as many as may be, and fewer bytes", join("INC1", 2, 1<<32, bytes.Repeat(join(1, byte(1)), n/9)))
	}
}

// keepsAll fails, unless all of chapters 9 and 11 holds of a run.
func keepsAll(t *testing.T, r *run.Run, next func() uint64) {
	t.Helper()
	l, eps, ls := r.List(), r.Eps(), r.Levels()
	tells(t, r, l, eps, ls)
	if err := levels.Check(keys.Of(l), eps, ls); err != api.OK || keys.Check(l) != api.OK {
		t.Fatalf("entries: %v, levels: %v", keys.Check(l), err)
	}
	if _, err := r.At(len(l)); err != api.ErrArg || r.Size(-1) != 0 || r.Size(len(ls)+1) != 0 || r.Key(0, len(l)) != 0 || r.Segment(0, 0) != (api.Segment{}) {
		t.Fatalf("what there is not: %v, %d, %d", err, r.Size(-1), r.Size(len(ls)+1))
	}
	below := [][]uint64{keys.Of(l)}
	for _, level := range ls {
		below = append(below, heads(level))
	}
	for _, q := range asked(l, ls, next) {
		rank, e, there := plainRank(l, q)
		if x, is := r.Get(q); x != e || is != there || r.Rank(q) != rank {
			t.Fatalf("%d, eps %d, %d entries: %v, %v, rank %d, want %v, %v, %d", q, eps, len(l), x, is, r.Rank(q), e, there, rank)
		}
		c := counted{r, map[[2]int]int{}}
		if n, is := probe.Find(c, q); n != rank || is != there {
			t.Fatalf("Find of %d: %d, %v, want %d, %v", q, n, is, rank, there)
		}
		c.few(t)
		visits := probe.Path(r, q)
		if len(visits) != len(ls) {
			t.Fatalf("height %d, %d visits", len(ls), len(visits))
		}
		for _, v := range visits {
			want, there := slices.BinarySearch(below[v.Level], q)
			off := max(v.Guess-v.Rank, v.Rank-v.Guess)
			if v.Rank != want || off > eps+1 || there && off > eps {
				t.Fatalf("%d, eps %d: %v, of the rank %d, is off by %d", q, eps, v, want, off)
			}
		}
	}
}

// P12.5: of the runs that were written, and read, all holds that held.
func TestKeepsAll(t *testing.T) {
	next := scatter()
	right(t, func(r *run.Run, l []api.Entry, eps int, ls [][]api.Segment) {
		keepsAll(t, got(t, Put(r)), next)
	})
}

// held fails, unless Get takes the bytes just if the chapter does, as what it says they are; a run that is answered is written as these bytes, and all holds of it. It tells whether they were taken.
func held(t *testing.T, b []byte, next func() uint64) bool {
	t.Helper()
	was := slices.Clone(b)
	r, err := Get(b)
	l, eps, ls, taken := plainGet(b)
	if !bytes.Equal(b, was) {
		t.Fatalf("the bytes %x have become %x", was, b)
	}
	if !taken {
		if r != nil || err != api.ErrCorrupt {
			t.Fatalf("Get of %x: %v, %v, want ErrCorrupt", b, r, err)
		}
		return false
	}
	if r == nil || err != api.OK {
		t.Fatalf("Get of %x: %v, %v, want a run", b, r, err)
	}
	tells(t, r, l, eps, ls)
	if again := Put(r); !bytes.Equal(again, b) {
		t.Fatalf("%x, read and written: %x", b, again)
	}
	keepsAll(t, r, next)
	return true
}

// T4, P12.2, P12.4, P12.5: one bit turned, wherever it is: refused, or a run that is written as these bytes.
func TestEveryBit(t *testing.T) {
	next := scatter()
	took := map[bool]int{}
	for i, ks := range [][]uint64{nil, {10}, {0, top}, {10, 20, 30, 40, 50}, {5, 6, 7, 8, 100, 101, 102}} {
		l := filled(ks, i, next)
		for _, eps := range []int{2, 64} {
			b := Put(made(t, l, eps))
			for at := range 8 * len(b) {
				other := slices.Clone(b)
				other[at/8] ^= 1 << (at % 8)
				took[held(t, other, next)]++
			}
		}
	}
	if min(took[true], took[false]) < 1000 {
		t.Errorf("taken: %v", took)
	}
}

// P12.2, P12.4, P12.5: the bytes of runs of all kinds, changed here and there.
func TestAnyBytes(t *testing.T) {
	next := scatter()
	took := map[bool]int{}
	right(t, func(_ *run.Run, l []api.Entry, eps int, ls [][]api.Segment) {
		all := pieces(l, eps, ls)
		for range 4 {
			other := slices.Clone(all)
			at := int(next() % uint64(len(other)))
			if next()%2 == 0 {
				at = len(other) - 1 - int(next()%uint64(min(len(other), 40)))
			}
			switch x := other[at].(type) {
			case int:
				other[at] = x + int(next()%3) - 1
			case uint64:
				other[at] = x + next()
			case float64:
				other[at] = []any{x + 0.5, x - 0.5, x * 0.75, minus0, x + 1, -x, math.Inf(1), math.NaN()}[next()%8]
			case byte:
				other[at] = byte(next() % 3)
			}
			switch next() % 8 {
			case 0:
				other = slices.Delete(other, at, at+1)
			case 1:
				other = slices.Insert(other, at, other[at])
			}
			b := join(other...)
			took[held(t, b, next)]++
			b[next()%uint64(len(b))] ^= 1 << (next() % 8)
			took[held(t, b, next)]++
		}
	})
	for range 2000 {
		b := make([]byte, next()%200)
		for i := range b {
			b[i] = byte(next() % 4)
		}
		copy(b, join("INC1", 2+int(next()%63), int(next()%8)))
		took[held(t, b, next)]++
	}
	if took[true] < 500 || took[false] < 2000 {
		t.Errorf("taken: %v", took)
	}
}

// R4: bytes that were handed in are neither changed nor kept, nor is what is behind them read; bytes that come out are the caller's, their spare room too.
func TestMemory(t *testing.T) {
	next := scatter()
	l := filled(nested(4, 3, 7), 2, next)
	ls := built(t, l, 2)
	want := join(pieces(l, 2, ls)...)
	room := append(slices.Clone(want), "and more behind"...)
	r := got(t, room[:len(want)])
	if string(room) != string(want)+"and more behind" {
		t.Fatal("the bytes that were handed in have changed")
	}
	refused(t, "bytes that go on behind their end", room[:len(want)-1])
	clear(room)
	tells(t, r, l, 2, ls)
	a, b := Put(r), Put(r)
	a = a[:cap(a)]
	clear(a)
	if !bytes.Equal(b, want) || !bytes.Equal(Put(r), want) {
		t.Fatal("two answers share memory")
	}
	other := got(t, b)
	clear(b)
	tells(t, other, l, 2, ls)
	tells(t, r, l, 2, ls)
}

// P12.1: a run is not changed by being written, nor are two runs mixed.
func TestWrittenTwice(t *testing.T) {
	a, b := made(t, five, 2), made(t, five[:2], 3)
	x, y := Put(a), Put(b)
	if bytes.Equal(x, y) || !bytes.Equal(Put(a), x) || !bytes.Equal(Put(b), y) {
		t.Errorf("%x and %x, later %x and %x", x, y, Put(a), Put(b))
	}
	tells(t, a, five, 2, built(t, five, 2))
	tells(t, b, five[:2], 3, built(t, five[:2], 3))
}

// The program's own faults are no corrupt bytes: what something else threw goes on.
func TestToldIsOurs(t *testing.T) {
	defer func() {
		if thrown := recover(); thrown != "a fault" {
			t.Errorf("thrown: %v", thrown)
		}
	}()
	if err := told(api.ErrCorrupt); err != api.ErrCorrupt {
		t.Errorf("told: %v", err)
	}
	told("a fault")
}
