package buffer

import (
	"maps"
	"math"
	"runtime"
	"slices"
	"testing"

	"incline/api"
	"incline/keys"
)

const top = math.MaxUint64

var wrongMosts = []int{math.MinInt, math.MinInt + 1, -1 << 32, -2, -1, 0, 1<<32 + 1, 1<<32 + 2, 1 << 33, math.MaxInt - 1, math.MaxInt}

// scatter gives words without a pattern, of all lengths, always the same ones.
func scatter() func() uint64 {
	x := uint64(0x9e3779b97f4a7c15)
	next := func() uint64 {
		x ^= x << 13
		x ^= x >> 7
		x ^= x << 17
		return x
	}
	return func() uint64 { return next() >> (next() % 64) }
}

// each hands over every row of at most most things of kinds.
func each[T any](kinds []T, most int, do func([]T)) {
	var grow func(l []T)
	grow = func(l []T) {
		do(slices.Clone(l))
		if len(l) == most {
			return
		}
		for _, k := range kinds {
			grow(append(slices.Clone(l), k))
		}
	}
	grow(nil)
}

// kinds are entries of each kind with these keys, such as may not be too.
func kinds(ks ...uint64) []api.Entry {
	var l []api.Entry
	for _, k := range ks {
		l = append(l, api.Entry{Key: k}, api.Entry{Key: k, Value: top - k}, api.Entry{Key: k, Gone: true}, api.Entry{Key: k, Value: 1, Gone: true})
	}
	return l
}

// strewn is an entry of any kind with a key below below, or with any, if that is 0.
func strewn(below uint64, next func() uint64) api.Entry {
	e := api.Entry{Key: next(), Value: next()}
	if below > 0 {
		e.Key %= below
	} else if next()%8 == 0 {
		e.Key = []uint64{0, 1, top - 1, top}[next()%4]
	}
	switch next() % 8 {
	case 0, 1:
		e.Value, e.Gone = 0, true
	case 2:
		e.Gone = true
	}
	return e
}

// plain is a buffer by the promises' own words: a map, which is sorted only when it is told.
type plain struct {
	most int
	all  map[uint64]api.Entry
}

func plainOf(most int) *plain { return &plain{most, map[uint64]api.Entry{}} }

func (p *plain) put(e api.Entry) api.Errno {
	_, there := p.all[e.Key]
	switch {
	case e.Gone && e.Value != 0:
		return api.ErrKeysGone
	case !there && len(p.all) == p.most:
		return api.ErrBufferFull
	}
	p.all[e.Key] = e
	return api.OK
}

func (p *plain) list() []api.Entry {
	var l []api.Entry
	for _, k := range slices.Sorted(maps.Keys(p.all)) {
		l = append(l, p.all[k])
	}
	return l
}

func (p *plain) clone() *plain { return &plain{p.most, maps.Clone(p.all)} }

// bufferOf is a buffer with entries that it takes.
func bufferOf(t *testing.T, most int, l ...api.Entry) *Buffer {
	t.Helper()
	b, e := New(most)
	if b == nil || e != api.OK {
		t.Fatalf("New(%d): %v, %d", most, b, e)
	}
	for _, x := range l {
		if e := b.Put(x); e != api.OK {
			t.Fatalf("Put(%v): %d", x, e)
		}
	}
	return b
}

// hold fails, unless a buffer tells what the plain one does, whatever it is asked: of the keys about its own, and of those at both ends.
func hold(t *testing.T, b *Buffer, p *plain) {
	t.Helper()
	want := p.list()
	if l := b.List(); !slices.Equal(l, want) || keys.Check(l) != api.OK {
		t.Fatalf("List: %v, not %v", l, want)
	}
	if b.Len() != len(want) || b.Full() != (len(want) == p.most) {
		t.Fatalf("of %v, at most %d: Len %d, Full %v", want, p.most, b.Len(), b.Full())
	}
	ask := []uint64{0, 1, 2, 1 << 63, top - 1, top}
	for _, e := range want {
		ask = append(ask, e.Key-1, e.Key, e.Key+1)
	}
	for _, k := range ask {
		is, there := p.all[k]
		if e, ok := b.Get(k); e != is || ok != there {
			t.Fatalf("of %v Get(%d): %v, %v, not %v, %v", want, k, e, ok, is, there)
		}
	}
}

// puts fails, unless a buffer and the plain one answer a Put alike.
func puts(t *testing.T, b *Buffer, p *plain, e api.Entry) {
	t.Helper()
	if got, want := b.Put(e), p.put(e); got != want {
		t.Fatalf("Put(%v): %d, not %d; of at most %d there are %v", e, got, want, p.most, p.list())
	}
}

// empties fails, unless Empty tells what the plain buffer has; none has entries then.
func empties(t *testing.T, b *Buffer, p *plain) {
	t.Helper()
	want := p.list()
	if l := b.Empty(); !slices.Equal(l, want) {
		t.Fatalf("Empty: %v, not %v", l, want)
	}
	clear(p.all)
}

// P14.1 to P14.3: the chapter's examples.
func TestExamples(t *testing.T) {
	if b, e := New(0); b != nil || e != api.ErrArg {
		t.Errorf("New(0): %v, %d", b, e)
	}
	b := bufferOf(t, 2, api.Entry{Key: 5, Value: 1}, api.Entry{Key: 3, Gone: true})
	if !b.Full() {
		t.Error("it is not full")
	}
	if e := b.Put(api.Entry{Key: 4, Value: 1}); e != api.ErrBufferFull {
		t.Errorf("Put of 4: %d", e)
	}
	if e := b.Put(api.Entry{Key: 4, Value: 1, Gone: true}); e != api.ErrKeysGone {
		t.Errorf("Put of a tombstone with a value: %d", e)
	}
	if e := b.Put(api.Entry{Key: 3, Value: 9}); e != api.OK {
		t.Errorf("Put of 3: %d", e)
	}
	both := []api.Entry{{Key: 3, Value: 9}, {Key: 5, Value: 1}}
	if l := b.List(); !slices.Equal(l, both) {
		t.Errorf("List: %v", l)
	}
	if e, there := b.Get(5); e != (api.Entry{Key: 5, Value: 1}) || !there {
		t.Errorf("Get(5): %v, %v", e, there)
	}
	if e, there := b.Get(4); e != (api.Entry{}) || there {
		t.Errorf("Get(4): %v, %v", e, there)
	}
	if l := b.Empty(); !slices.Equal(l, both) || b.Len() != 0 {
		t.Errorf("Empty: %v, then %d are left", l, b.Len())
	}
}

// P14.1
func TestNew(t *testing.T) {
	for _, most := range wrongMosts {
		if b, e := New(most); b != nil || e != api.ErrArg {
			t.Errorf("New(%d): %v, %d", most, b, e)
		}
	}
	for _, most := range []int{1, 2, 3, 1 << 16, 1<<32 - 1, 1 << 32} {
		hold(t, bufferOf(t, most), plainOf(most))
	}
}

// P14.1: a buffer has as many entries as it may, and none more.
func TestMost(t *testing.T) {
	for _, most := range []int{1, 2, 3, 7, 8, 9, 64, 1000} {
		b, p := bufferOf(t, most), plainOf(most)
		for i := range most {
			if b.Full() || b.Len() != i {
				t.Fatalf("of at most %d, with %d: Len %d, Full %v", most, i, b.Len(), b.Full())
			}
			puts(t, b, p, api.Entry{Key: uint64(i*37%most) * 2, Value: uint64(i), Gone: i == 0}) // 37 has no divisor in common with any most: each i has another key
		}
		for k := range uint64(2*most + 2) {
			puts(t, b, p, api.Entry{Key: k, Value: 5})
		}
		hold(t, b, p)
	}
}

// taken is how many bytes a function takes, all in all.
func taken(do func()) uint64 {
	var before, behind runtime.MemStats
	runtime.ReadMemStats(&before)
	do()
	runtime.ReadMemStats(&behind)
	return behind.TotalAlloc - before.TotalAlloc
}

// P14.1: how many entries there may be takes no memory; those that are there do.
func TestLittleMemory(t *testing.T) {
	const n, bytes = 1000, 24 // of an entry
	var kept []*Buffer
	if got := taken(func() {
		for range n {
			b, _ := New(api.MaxRun)
			b.Put(api.Entry{Key: 1})
			kept = append(kept, b, b.Clone())
		}
	}); got > n*2000 {
		t.Errorf("%d buffers of one entry, and their clones, take %d bytes", len(kept), got)
	}
	b := bufferOf(t, api.MaxRun)
	if got := taken(func() {
		for i := range uint64(n) {
			b.Put(api.Entry{Key: i * 7919 % n, Value: i})
		}
	}); b.Len() != n || got > 10*n*bytes {
		t.Errorf("%d entries take %d bytes", b.Len(), got)
	}
	if got := taken(func() {
		for i := range uint64(n) {
			b.Put(api.Entry{Key: i, Gone: true})
			b.Get(i)
		}
	}); b.Len() != n || got > n*bytes {
		t.Errorf("others in the place of all %d take %d bytes", b.Len(), got)
	}
	if b.Empty(); cap(b.entries) != 0 {
		t.Errorf("an emptied buffer has room for %d", cap(b.entries))
	}
	runtime.KeepAlive(kept)
}

// P14.2, P14.3: every short row of Puts, of all kinds and with keys at both ends, into buffers of few entries.
func TestAllShortRows(t *testing.T) {
	each(kinds(0, 1, top), 4, func(row []api.Entry) {
		for most := 1; most <= 4; most++ {
			b, p := bufferOf(t, most), plainOf(most)
			for _, e := range row {
				puts(t, b, p, e)
			}
			hold(t, b, p)
			empties(t, b, p)
			hold(t, b, p)
		}
	})
}

// P14.2: a new key ahead of all, behind all, and everywhere between.
func TestPutEverywhere(t *testing.T) {
	for n := range uint64(40) {
		for at := range n + 1 {
			for _, x := range []api.Entry{{Key: 10 * at, Value: 7}, {Key: 10 * at, Gone: true}} {
				b, p := bufferOf(t, int(n)+1), plainOf(int(n)+1)
				for i := range n {
					puts(t, b, p, api.Entry{Key: 10*i + 5, Value: i})
				}
				puts(t, b, p, x)
				if l := b.List(); l[at] != x {
					t.Fatalf("of %v %d is %v", l, at, l[at])
				}
				hold(t, b, p)
			}
		}
	}
}

// P14.2: an entry in the place of another with its key, of each kind, in a buffer that is full and in one that is not.
func TestPutInPlace(t *testing.T) {
	ks := []uint64{0, 1, 500, 1 << 63, top - 1, top}
	for _, most := range []int{len(ks), len(ks) + 1} {
		for _, k := range ks {
			for _, was := range kinds(k) {
				for _, is := range kinds(k) {
					b, p := bufferOf(t, most), plainOf(most)
					for _, other := range ks {
						puts(t, b, p, api.Entry{Key: other, Value: 3})
					}
					puts(t, b, p, was)
					puts(t, b, p, is)
					hold(t, b, p)
				}
			}
		}
	}
}

// P14.2, R2: a Put that is refused changes nothing; a tombstone with a value is refused as that, in a full buffer too, be its key there or not.
func TestPutRefused(t *testing.T) {
	full := []api.Entry{{Key: 0, Value: 4}, {Key: 7, Gone: true}, {Key: top, Value: top}}
	for _, x := range []struct {
		most int
		e    api.Entry
		want api.Errno
	}{
		{3, api.Entry{Key: 1}, api.ErrBufferFull},
		{3, api.Entry{Key: 1, Value: 1}, api.ErrBufferFull},
		{3, api.Entry{Key: 8, Gone: true}, api.ErrBufferFull},
		{3, api.Entry{Key: top - 1, Value: top}, api.ErrBufferFull},
		{3, api.Entry{Key: 1, Value: 1, Gone: true}, api.ErrKeysGone},
		{3, api.Entry{Key: 7, Value: 1, Gone: true}, api.ErrKeysGone},
		{3, api.Entry{Key: top, Value: top, Gone: true}, api.ErrKeysGone},
		{4, api.Entry{Key: 0, Value: 1 << 63, Gone: true}, api.ErrKeysGone},
		{4, api.Entry{Key: 6, Value: 1, Gone: true}, api.ErrKeysGone},
		{api.MaxRun, api.Entry{Key: 6, Value: 1, Gone: true}, api.ErrKeysGone},
	} {
		b, p := bufferOf(t, x.most, full...), plainOf(x.most)
		for _, e := range full {
			p.put(e)
		}
		for range 2 {
			if e := b.Put(x.e); e != x.want {
				t.Errorf("at most %d: Put(%v): %d, not %d", x.most, x.e, e, x.want)
			}
			hold(t, b, p)
		}
	}
	b := bufferOf(t, 1)
	if e := b.Put(api.Entry{Value: 1, Gone: true}); e != api.ErrKeysGone {
		t.Errorf("into a buffer without entries: %d", e)
	}
	hold(t, b, plainOf(1))
}

// P14.2, P14.3: rows of all calls, with few keys and with any, into buffers of many sizes; clones of them go on beside them.
func TestRows(t *testing.T) {
	next := scatter()
	for _, most := range []int{1, 2, 3, 5, 16, 100, 1000, api.MaxRun} {
		for _, below := range []uint64{0, 1, 4, 50, 3000} {
			bs, ps := []*Buffer{bufferOf(t, most)}, []*plain{plainOf(most)}
			for range 1500 {
				i := int(next() % uint64(len(bs)))
				switch next() % 200 {
				case 0:
					empties(t, bs[i], ps[i])
				case 1:
					if len(bs) < 4 {
						bs, ps = append(bs, bs[i].Clone()), append(ps, ps[i].clone())
					}
				case 2, 3, 4:
					hold(t, bs[i], ps[i])
				default:
					puts(t, bs[i], ps[i], strewn(below, next))
				}
			}
			for i := range bs {
				hold(t, bs[i], ps[i])
				empties(t, bs[i], ps[i])
				hold(t, bs[i], ps[i])
			}
		}
	}
}

// P14.2, P14.3: many entries, by rising and by falling keys, and by keys without an order.
func TestManyEntries(t *testing.T) {
	const n = 5000
	next := scatter()
	for name, key := range map[string]func(i uint64) uint64{
		"rising":   func(i uint64) uint64 { return i },
		"falling":  func(i uint64) uint64 { return top - i },
		"in turns": func(i uint64) uint64 { return i * (i%2*2 - 1) },
		"any":      func(uint64) uint64 { return next() },
	} {
		t.Run(name, func(t *testing.T) {
			b, p := bufferOf(t, n), plainOf(n)
			for i := range uint64(n + 100) {
				puts(t, b, p, api.Entry{Key: key(i), Value: i})
			}
			hold(t, b, p)
			empties(t, b, p)
		})
	}
}

// P14.3: Empty of a buffer with entries and of one without, again and again; it may have as many as ever then.
func TestEmpty(t *testing.T) {
	for most := 1; most < 12; most++ {
		b, p := bufferOf(t, most), plainOf(most)
		for round := range uint64(5) {
			empties(t, b, p)
			hold(t, b, p)
			empties(t, b, p)
			hold(t, b, p)
			for i := range uint64(most) + 1 {
				puts(t, b, p, api.Entry{Key: (7*i + round) % 13, Value: round})
				hold(t, b, p)
			}
		}
	}
}

// spoil writes into all of a list, its spare room too.
func spoil(l []api.Entry) {
	l = l[:cap(l)]
	for i := range l {
		l[i] = api.Entry{Key: 77, Value: 7, Gone: true}
	}
}

// R4: lists that were told are the caller's, their spare room too: no one sees what is written into the other.
func TestMemory(t *testing.T) {
	next := scatter()
	for n := range 40 {
		b, p := bufferOf(t, n+3), plainOf(n+3)
		for range n {
			puts(t, b, p, strewn(60, next))
		}
		want := p.list()
		one, two := b.List(), b.List()
		spoil(one)
		hold(t, b, p)
		if !slices.Equal(two, want) {
			t.Fatalf("two lists share memory: %v, not %v", two, want)
		}
		for k := range uint64(60) {
			puts(t, b, p, api.Entry{Key: k, Gone: true})
		}
		if !slices.Equal(two, want) {
			t.Fatalf("a Put changes a list that was told: %v, not %v", two, want)
		}
		want = p.list()
		c, out := b.Clone(), b.Empty()
		q := p.clone()
		clear(p.all)
		for k := range uint64(60) {
			puts(t, b, p, api.Entry{Key: 2 * k, Value: 9})
		}
		if !slices.Equal(out, want) {
			t.Fatalf("a Put changes a list that Empty told: %v, not %v", out, want)
		}
		spoil(out)
		spoil(two)
		hold(t, b, p)
		hold(t, c, q)
	}
}

// R7: a clone is like the first one in all that can be asked, and each goes its own way, be they full, half full, without entries, or emptied.
func TestClone(t *testing.T) {
	next := scatter()
	for most := 1; most < 20; most++ {
		for n := range most + 1 {
			b, p := bufferOf(t, most), plainOf(most)
			for i := range n {
				puts(t, b, p, api.Entry{Key: uint64(i * 5), Value: next()})
			}
			hold(t, b, p)
			c, q := b.Clone(), p.clone()
			hold(t, c, q)
			for range 30 {
				puts(t, b, p, strewn(100, next))
				puts(t, c, q, strewn(100, next))
			}
			hold(t, b, p)
			hold(t, c, q)
			d, r := c.Clone(), q.clone()
			empties(t, c, q)
			hold(t, d, r)
			d2, r2 := c.Clone(), q.clone()
			puts(t, c, q, api.Entry{Key: 1, Value: 2})
			hold(t, d2, r2)
			puts(t, d2, r2, api.Entry{Key: top, Gone: true})
			hold(t, c, q)
			empties(t, d, r)
			hold(t, b, p)
		}
	}
}

// R7: what a clone and the first one lay down behind their last entries does not meet in one room.
func TestCloneRoom(t *testing.T) {
	for n := range uint64(40) {
		b, p := bufferOf(t, 100), plainOf(100)
		for i := range n {
			puts(t, b, p, api.Entry{Key: i, Value: i})
		}
		c, q := b.Clone(), p.clone()
		d, r := b.Clone(), p.clone()
		puts(t, b, p, api.Entry{Key: 1000, Value: 1})
		puts(t, c, q, api.Entry{Key: 1000, Value: 2})
		puts(t, d, r, api.Entry{Key: 999, Gone: true})
		hold(t, b, p)
		hold(t, c, q)
		hold(t, d, r)
	}
}
