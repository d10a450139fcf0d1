package octets

import (
	"bytes"
	"math"
	"slices"
	"testing"

	"incline/api"
)

const top = math.MaxUint64

var (
	// numbers are those at which a byte, an int or a float's bits end.
	numbers = []uint64{0, 1, 2, 127, 128, 255, 256, 257, 258, 65535, 65536, 1<<31 - 1, 1 << 31, 1<<32 - 1, 1 << 32, 1<<56 - 1, 1 << 56, 1<<62 - 1, 1 << 62, 1<<63 - 1, 1 << 63, 1<<63 + 1, 0x0102030405060708, 0xfedcba9876543210, top - 1, top}
	minus0  = math.Copysign(0, -1)
	// finites are floats of all kinds, from both noughts to both ends.
	finites = []float64{0, minus0, 1, -1, 0.05, -0.05, 2, 1.5, -2, math.Pi, 1 << 53, -1 << 63, math.SmallestNonzeroFloat64, -math.SmallestNonzeroFloat64, 0x1p-1022, -0x1p-1022, 0x1p-1022 - math.SmallestNonzeroFloat64, math.MaxFloat64, -math.MaxFloat64}
	// wilds are bits of no finite float: the infinities, and NaNs of both signs, quiet and not, from the least bits to the greatest.
	wilds  = []uint64{0x7ff0000000000000, 0xfff0000000000000, 0x7ff0000000000001, 0xfff0000000000001, 0x7ff8000000000000, 0xfff8000000000000, 0x7ff8000000000001, 0x7ff7ffffffffffff, 0x7fffffffffffffff, top}
	fronts = [][]byte{nil, {}, {0}, {255}, []byte("ab"), []byte("0123456"), []byte("01234567"), []byte("012345678"), bytes.Repeat([]byte{7, 200}, 500)}
)

// scatter gives words without a pattern, of all lengths, always the same ones.
func scatter() func() uint64 {
	x := uint64(0x9e3779b97f4a7c15)
	next := func() uint64 {
		x ^= x << 13
		x ^= x >> 7
		x ^= x << 17
		return x
	}
	return func() uint64 { return next() >> (next() % 64) }
}

// eight are the bytes of n by the promise's words: the highest first.
func eight(n uint64) []byte {
	return []byte{byte(n >> 56), byte(n >> 48), byte(n >> 40), byte(n >> 32), byte(n >> 24), byte(n >> 16), byte(n >> 8), byte(n)}
}

// joined are the bytes of all, in new memory.
func joined(all ...[]byte) []byte {
	var l []byte
	for _, b := range all {
		l = append(l, b...)
	}
	return l
}

// roomy is a list like b, with room behind it that is full of 0xee, and that room with it.
func roomy(b []byte) (list, whole []byte) {
	whole = append(slices.Clone(b), bytes.Repeat([]byte{0xee}, 24)...)
	return whole[:len(b)], whole
}

// smeared overwrites all of b, its spare room too.
func smeared(b []byte) {
	b = b[:cap(b)]
	for i := range b {
		b[i] ^= 0xff
	}
}

// P10.1: the examples of the chapter.
func TestPutExamples(t *testing.T) {
	if b := Put([]byte{0x61, 0x62}, 258); !bytes.Equal(b, []byte{0x61, 0x62, 0, 0, 0, 0, 0, 0, 1, 2}) {
		t.Errorf("Put of 258 behind two bytes: %x", b)
	}
	if b := PutFloat(nil, minus0); !bytes.Equal(b, []byte{0x80, 0, 0, 0, 0, 0, 0, 0}) {
		t.Errorf("PutFloat of -0 behind none: %x", b)
	}
}

// P10.1: b's bytes, and behind them the eight of the number, the highest first.
func TestPut(t *testing.T) {
	next := scatter()
	some := slices.Clone(numbers)
	for range 500 {
		some = append(some, next())
	}
	for _, b := range fronts {
		for _, n := range some {
			if l := Put(b, n); !bytes.Equal(l, joined(b, eight(n))) {
				t.Fatalf("Put of %d behind %x: %x", n, b, l)
			}
		}
	}
	if l := Put(nil, 0x0102030405060708); !bytes.Equal(l, []byte{1, 2, 3, 4, 5, 6, 7, 8}) {
		t.Errorf("Put of the eight bytes 1 to 8: %x", l)
	}
	if l := Put([]byte{}, top); !bytes.Equal(l, bytes.Repeat([]byte{0xff}, 8)) {
		t.Errorf("Put of 2^64 - 1: %x", l)
	}
}

// P10.1: likewise the 64 bits of a float; of a NaN those of some NaN.
func TestPutFloat(t *testing.T) {
	known := []struct {
		f    float64
		bits uint64
	}{
		{0, 0}, {minus0, 1 << 63}, {1, 0x3ff0000000000000}, {-2, 0xc000000000000000}, {0.05, 0x3fa999999999999a},
		{math.SmallestNonzeroFloat64, 1}, {math.MaxFloat64, 0x7fefffffffffffff}, {-math.MaxFloat64, 0xffefffffffffffff},
		{math.Inf(1), 0x7ff0000000000000}, {math.Inf(-1), 0xfff0000000000000},
	}
	for _, b := range fronts {
		for _, k := range known {
			if l := PutFloat(b, k.f); !bytes.Equal(l, joined(b, eight(k.bits))) {
				t.Errorf("PutFloat of %v behind %x: %x", k.f, b, l)
			}
		}
		for _, f := range finites {
			if l := PutFloat(b, f); !bytes.Equal(l, joined(b, eight(math.Float64bits(f)))) {
				t.Errorf("PutFloat of %v behind %x: %x", f, b, l)
			}
		}
		l := PutFloat(b, math.NaN())
		if len(l) != len(b)+8 || !bytes.Equal(l[:len(b)], b) {
			t.Fatalf("PutFloat of a NaN behind %x: %x", b, l)
		}
		bits := l[len(b):]
		if bits[0]&0x7f != 0x7f || bits[1]&0xf0 != 0xf0 || bits[1]&0x0f == 0 && bytes.Equal(bits[2:], make([]byte, 6)) {
			t.Errorf("PutFloat of a NaN: %x are no NaN's bits", bits)
		}
	}
}

// P10.1: new memory, though there is room behind b; what was handed in is as it was, that room too, and no two answers share any.
func TestPutMemory(t *testing.T) {
	puts := []func(b []byte) []byte{
		func(b []byte) []byte { return Put(b, 0x0102030405060708) },
		func(b []byte) []byte { return PutFloat(b, math.Pi) },
	}
	for i, put := range puts {
		for _, front := range fronts {
			b, whole := roomy(front)
			before := slices.Clone(whole)
			one, two := put(b), put(b)
			right := slices.Clone(one)
			smeared(two)
			if !bytes.Equal(one, right) || !bytes.Equal(whole, before) {
				t.Fatalf("call %d, %d bytes: what is done to an answer changes another one, or the argument", i, len(front))
			}
			smeared(one)
			if !bytes.Equal(whole, before) {
				t.Fatalf("call %d, %d bytes: an answer, or its spare room, is the argument's memory", i, len(front))
			}
			one = put(b)
			smeared(whole)
			if !bytes.Equal(one, right) {
				t.Fatalf("call %d, %d bytes: an answer changes with the argument", i, len(front))
			}
			// Behind an answer stands another: each keeps its own tail.
			first := put(front)
			second, third := Put(first, 1), Put(first, 2)
			if !bytes.Equal(second, joined(right, eight(1))) || !bytes.Equal(third, joined(right, eight(2))) {
				t.Fatalf("call %d, %d bytes: two answers behind one list: %x, %x", i, len(front), second, third)
			}
		}
	}
}

// answer is what a call of a reader answered: its number, or the bits of its float, and the error.
type answer struct {
	n   uint64
	err api.Errno
}

// call is a call of a reader, as it is made, and as the promise's words say it: what it answers of the bytes that are left, and how many of them it reads.
type call struct {
	name string
	do   func(r *Reader) answer
	say  func(left []byte) (answer, int)
}

// valued is the number of eight bytes, the highest first.
func valued(b []byte) uint64 {
	n := uint64(0)
	for i := range 8 {
		n += uint64(b[i]) << (56 - 8*i)
	}
	return n
}

func numberCall() call {
	return call{"Number()", func(r *Reader) answer {
		n, err := r.Number()
		return answer{n, err}
	}, func(left []byte) (answer, int) {
		if len(left) < 8 {
			return answer{0, api.ErrOctetsShort}, 0
		}
		return answer{valued(left), api.OK}, 8
	}}
}

func countCall(most int) call {
	return call{"Count", func(r *Reader) answer {
		n, err := r.Count(most)
		return answer{uint64(n), err}
	}, func(left []byte) (answer, int) {
		if len(left) < 8 {
			return answer{0, api.ErrOctetsShort}, 0
		}
		if most < 0 || valued(left) > uint64(most) {
			return answer{0, api.ErrOctetsForm}, 0
		}
		return answer{valued(left), api.OK}, 8
	}}
}

func floatCall() call {
	return call{"Float()", func(r *Reader) answer {
		f, err := r.Float()
		return answer{math.Float64bits(f), err}
	}, func(left []byte) (answer, int) {
		if len(left) < 8 {
			return answer{0, api.ErrOctetsShort}, 0
		}
		if f := math.Float64frombits(valued(left)); math.IsNaN(f) || math.IsInf(f, 0) {
			return answer{0, api.ErrOctetsForm}, 0
		}
		return answer{valued(left), api.OK}, 8
	}}
}

func byteCall(most byte) call {
	return call{"Byte", func(r *Reader) answer {
		b, err := r.Byte(most)
		return answer{uint64(b), err}
	}, func(left []byte) (answer, int) {
		if len(left) < 1 {
			return answer{0, api.ErrOctetsShort}, 0
		}
		if left[0] > most {
			return answer{0, api.ErrOctetsForm}, 0
		}
		return answer{uint64(left[0]), api.OK}, 1
	}}
}

func wordCall(w string) call {
	return call{"Word", func(r *Reader) answer {
		return answer{0, r.Word(w)}
	}, func(left []byte) (answer, int) {
		if len(left) < len(w) {
			return answer{0, api.ErrOctetsShort}, 0
		}
		if !bytes.HasPrefix(left, []byte(w)) {
			return answer{0, api.ErrOctetsForm}, 0
		}
		return answer{0, api.OK}, len(w)
	}}
}

// held makes a call of a reader of which these bytes are left, holds it to the promise's words, and gives the bytes that are left now.
func held(t *testing.T, r *Reader, c call, left []byte) (rest []byte, err api.Errno) {
	t.Helper()
	want, read := c.say(left)
	if n := r.Left(); n != len(left) {
		t.Fatalf("ahead of %s: Left %d, not %d", c.name, n, len(left))
	}
	if got := c.do(r); got != want {
		t.Fatalf("%s of %x: %x, %v, not %x, %v", c.name, left, got.n, got.err, want.n, want.err)
	}
	rest = left[read:]
	if n := r.Left(); n != len(rest) {
		t.Fatalf("behind %s: Left %d, not %d", c.name, n, len(rest))
	}
	return rest, want.err
}

// P10.2, P10.3: the examples of the chapter.
func TestReaderExamples(t *testing.T) {
	b := []byte{0, 0, 0, 0, 0, 0, 1, 2, 0x61}
	r := New(b)
	x, e := r.Byte(5)
	y, f := r.Byte(0)
	n, g := r.Number()
	if x != 0 || e != api.OK || y != 0 || f != api.OK || n != 0 || g != api.ErrOctetsShort || r.Left() != 7 {
		t.Errorf("bytes and a number: %d %v, %d %v, %d %v, Left %d", x, e, y, f, n, g, r.Left())
	}
	r = New(b)
	c, e := r.Count(257)
	d, f := r.Count(258)
	if c != 0 || e != api.ErrOctetsForm || d != 258 || f != api.OK {
		t.Errorf("counts: %d %v, %d %v", c, e, d, f)
	}
	if e, f, g := r.Word("b"), r.Word("ab"), r.Word("a"); e != api.ErrOctetsForm || f != api.ErrOctetsShort || g != api.OK || r.Left() != 0 {
		t.Errorf("words: %v, %v, %v, Left %d", e, f, g, r.Left())
	}
	r = New([]byte{0x7f, 0xf0, 0, 0, 0, 0, 0, 0})
	if z, e := r.Float(); z != 0 || e != api.ErrOctetsForm || r.Left() != 8 {
		t.Errorf("an infinite float: %v, %v, Left %d", z, e, r.Left())
	}
}

// P10.2: a reader begins at the front, with all bytes left; each call that answers no error leaves just those behind that it read.
func TestLeft(t *testing.T) {
	for _, b := range fronts {
		r := New(b)
		if n := r.Left(); n != len(b) {
			t.Fatalf("New of %d bytes: Left %d", len(b), n)
		}
		for i, x := range b {
			if y, err := r.Byte(255); y != x || err != api.OK {
				t.Fatalf("byte %d of %x: %d, %v", i, b, y, err)
			}
			if n := r.Left(); n != len(b)-i-1 {
				t.Fatalf("behind byte %d of %d: Left %d", i, len(b), n)
			}
		}
		if y, err := r.Byte(255); y != 0 || err != api.ErrOctetsShort || r.Left() != 0 {
			t.Fatalf("behind the last byte: %d, %v, Left %d", y, err, r.Left())
		}
	}
}

// P10.2: the reader's bytes are a copy: what becomes of those that were handed in is not read, what is behind their length neither, and none of it is changed; two readers of the same bytes each go their own way.
func TestNewMemory(t *testing.T) {
	text := joined(eight(258), []byte("word"), eight(math.Float64bits(minus0)), []byte{9})
	b, whole := roomy(text)
	before := slices.Clone(whole)
	r, other := New(b), New(b)
	n, e := r.Number()
	smeared(whole)
	if n != 258 || e != api.OK || r.Left() != len(text)-8 || other.Left() != len(text) {
		t.Fatalf("Number: %d, %v, Left %d, of the other reader %d", n, e, r.Left(), other.Left())
	}
	for i, reader := range []*Reader{r, other} {
		left := text[8*(1-i):]
		calls := []call{wordCall("word"), floatCall(), byteCall(9)}
		if i == 1 {
			calls = append([]call{countCall(258)}, calls...)
		}
		for _, c := range calls {
			left, _ = held(t, reader, c, left)
		}
		for _, c := range []call{byteCall(255), numberCall(), wordCall("\xee"), wordCall("\x11")} {
			if _, err := held(t, reader, c, left); err != api.ErrOctetsShort {
				t.Fatalf("reader %d: behind the length: %v", i, err)
			}
		}
	}
	smeared(whole)
	if !bytes.Equal(whole, before) {
		t.Errorf("what was handed in was changed")
	}
}

// P10.3: Number, of no bytes up to more than eight.
func TestNumber(t *testing.T) {
	next := scatter()
	some := slices.Clone(numbers)
	for range 500 {
		some = append(some, next())
	}
	for _, n := range some {
		whole := joined(eight(n), []byte("more"))
		for size := range len(whole) + 1 {
			left, err := held(t, New(whole[:size]), numberCall(), whole[:size])
			if (err == api.ErrOctetsShort) != (size < 8) || len(left) > 4 && err == api.OK {
				t.Fatalf("Number of %d bytes: %v", size, err)
			}
		}
		if m, err := New(eight(n)).Number(); m != n || err != api.OK {
			t.Fatalf("Number of %d: %d, %v", n, m, err)
		}
	}
}

// P10.3: Count, with most at the number, one below and one above it, at 0 and below, and numbers above every int.
func TestCount(t *testing.T) {
	next := scatter()
	some := slices.Clone(numbers)
	for range 300 {
		some = append(some, next())
	}
	found := map[api.Errno]int{}
	for _, n := range some {
		mosts := []int{math.MinInt, math.MinInt + 1, -258, -2, -1, 0, 1, 257, 258, 259, math.MaxInt32, math.MaxInt - 1, math.MaxInt}
		mosts = append(mosts, int(n-1), int(n), int(n+1)) // of a number above every int: below 0, all but one
		for _, most := range mosts {
			for _, size := range []int{0, 1, 7, 8, 9, 12} {
				whole := joined(eight(n), []byte("more"))[:size]
				r := New(whole)
				left, err := held(t, r, countCall(most), whole)
				found[err]++
				if err == api.OK && (most < 0 || n > math.MaxInt) {
					t.Fatalf("Count(%d) of %d: no error", most, n)
				}
				// What was refused is still there, and is read by the next call.
				held(t, r, numberCall(), left)
			}
		}
	}
	if found[api.OK] == 0 || found[api.ErrOctetsShort] == 0 || found[api.ErrOctetsForm] == 0 || len(found) != 3 {
		t.Errorf("what was met: %v", found)
	}
	for _, most := range []int{-1, math.MinInt} {
		r := New(eight(0))
		if n, err := r.Count(most); n != 0 || err != api.ErrOctetsForm || r.Left() != 8 {
			t.Errorf("Count(%d) of 0: %d, %v, Left %d", most, n, err, r.Left())
		}
		if n, err := New(eight(0)[:7]).Count(most); n != 0 || err != api.ErrOctetsShort {
			t.Errorf("Count(%d) of seven bytes: %d, %v", most, n, err)
		}
	}
	if n, err := New(eight(0)).Count(0); n != 0 || err != api.OK {
		t.Errorf("Count(0) of 0: %d, %v", n, err)
	}
	if n, err := New(eight(math.MaxInt)).Count(math.MaxInt); n != math.MaxInt || err != api.OK {
		t.Errorf("Count of the greatest int: %d, %v", n, err)
	}
}

// P10.3: Float answers just the bits of finite floats, and refuses those of all others.
func TestFloat(t *testing.T) {
	next := scatter()
	var some []uint64
	for _, f := range finites {
		some = append(some, math.Float64bits(f))
	}
	for range 3000 {
		some = append(some, next(), next()|0x7ff<<52, next()&^(0x7ff<<52)|next()%2048<<52)
	}
	some = append(some, numbers...)
	some = append(some, wilds...)
	found := map[api.Errno]int{}
	for _, bits := range some {
		for _, size := range []int{0, 1, 7, 8, 9, 12} {
			whole := joined(eight(bits), []byte("more"))[:size]
			r := New(whole)
			left, err := held(t, r, floatCall(), whole)
			found[err]++
			held(t, r, numberCall(), left)
		}
	}
	if found[api.OK] == 0 || found[api.ErrOctetsShort] == 0 || found[api.ErrOctetsForm] == 0 || len(found) != 3 {
		t.Errorf("what was met: %v", found)
	}
	for _, f := range finites {
		if g, err := New(eight(math.Float64bits(f))).Float(); math.Float64bits(f) != math.Float64bits(g) || err != api.OK {
			t.Errorf("Float of %v: %v, %v", f, g, err)
		}
	}
	for _, bits := range wilds {
		r := New(eight(bits))
		if g, err := r.Float(); math.Float64bits(g) != 0 || err != api.ErrOctetsForm || r.Left() != 8 {
			t.Errorf("Float of %x: %v, %v, Left %d", bits, g, err, r.Left())
		}
		if n, err := r.Number(); n != bits || err != api.OK || r.Left() != 0 {
			t.Errorf("Number behind a Float that was refused: %x, %v, Left %d", n, err, r.Left())
		}
	}
}

// P10.3: Byte, of every byte with every most.
func TestByte(t *testing.T) {
	for most := range 256 {
		if b, err := New(nil).Byte(byte(most)); b != 0 || err != api.ErrOctetsShort {
			t.Fatalf("Byte(%d) of no bytes: %d, %v", most, b, err)
		}
		for x := range 256 {
			for _, whole := range [][]byte{{byte(x)}, {byte(x), 0}, {byte(x), 255}} {
				r := New(whole)
				left, err := held(t, r, byteCall(byte(most)), whole)
				if (err == api.OK) != (x <= most) {
					t.Fatalf("Byte(%d) of %x: %v", most, whole, err)
				}
				held(t, r, byteCall(255), left)
			}
		}
	}
}

// P10.3: Word, of no bytes, of those that come, of others, and of more than are left.
func TestWord(t *testing.T) {
	texts := []string{"", "a", "b", "ab", "abc", "abd", "bbc", "Abc", "abc\x00", "\x00", "\x00\x00", "\xff", "\xff\xfe", "incline", "inclinf", "jncline", "é", "01234567", "012345678"}
	found := map[api.Errno]int{}
	for _, text := range texts {
		for _, more := range []string{"", "\x00", "c", "tail"} {
			for _, w := range texts {
				whole := []byte(text + more)
				r := New(whole)
				left, err := held(t, r, wordCall(w), whole)
				found[err]++
				if w == "" && err != api.OK || len(w) > len(whole) && err != api.ErrOctetsShort {
					t.Fatalf("Word(%q) of %q: %v", w, whole, err)
				}
				if err = r.Word(string(left)); err != api.OK || r.Left() != 0 {
					t.Fatalf("Word of just those that are left, %q: %v, Left %d", left, err, r.Left())
				}
				if err = r.Word(""); err != api.OK {
					t.Fatalf("Word of no bytes at the end: %v", err)
				}
				if err = r.Word("a"); err != api.ErrOctetsShort {
					t.Fatalf("Word at the end: %v", err)
				}
			}
		}
	}
	if found[api.OK] == 0 || found[api.ErrOctetsShort] == 0 || found[api.ErrOctetsForm] == 0 || len(found) != 3 {
		t.Errorf("what was met: %v", found)
	}
	// The first byte that is wrong may stand anywhere.
	for i := range 7 {
		other := []byte("incline")
		other[i] ^= 1
		r := New([]byte("incline"))
		if err := r.Word(string(other)); err != api.ErrOctetsForm || r.Left() != 7 {
			t.Errorf("Word(%q) of incline: %v, Left %d", other, err, r.Left())
		}
	}
}

// P10.2, P10.3: any row of calls on any bytes is answered as the words say, and a call that was refused has read nothing: the next one reads what it did not.
func TestRows(t *testing.T) {
	next := scatter()
	found := map[string]int{}
	for range 4000 {
		whole := make([]byte, next()%64)
		for i := range whole {
			if next()%3 > 0 {
				whole[i] = byte(next())
			}
		}
		r, left := New(whole), whole
		for range 12 {
			calls := []call{numberCall(), countCall(int(next())), countCall(int(-next() % 1000)), floatCall(), byteCall(byte(next())), wordCall(string(left[:min(uint64(len(left)), next()%10)])), wordCall(string(whole[:min(uint64(len(whole)), next()%10)]))}
			c := calls[next()%uint64(len(calls))]
			rest, err := held(t, r, c, left)
			if err != api.OK {
				found[c.name+" refused, "+map[api.Errno]string{api.ErrOctetsShort: "short", api.ErrOctetsForm: "form"}[err]]++
			} else {
				found[c.name]++
			}
			left = rest
		}
	}
	if len(found) != 14 {
		t.Errorf("what was met: %v", found)
	}
}

// P10.4: what Put and PutFloat lay down, one behind the other, is read again in that order.
func TestLaidAndRead(t *testing.T) {
	next := scatter()
	for _, front := range fronts {
		for size := range 40 {
			b := slices.Clone(front)
			kinds := make([]uint64, size)
			words := make([]uint64, size)
			for i := range size {
				kinds[i], words[i] = next()%3, next()
				switch kinds[i] {
				case 0:
					b = Put(b, words[i])
				case 1:
					words[i] >>= 1
					b = Put(b, words[i])
				case 2:
					words[i] = math.Float64bits(finites[next()%uint64(len(finites))])
					b = PutFloat(b, math.Float64frombits(words[i]))
				}
			}
			r := New(b)
			if err := r.Word(string(front)); err != api.OK {
				t.Fatalf("Word of what stood ahead: %v", err)
			}
			for i, kind := range kinds {
				c := []call{numberCall(), countCall(math.MaxInt), floatCall()}[kind]
				if got := c.do(r); got != (answer{words[i], api.OK}) || r.Left() != 8*(size-i-1) {
					t.Fatalf("%s, %d of %d: %x, %v, not %x; Left %d", c.name, i, size, got.n, got.err, words[i], r.Left())
				}
			}
		}
	}
}

// P10.4: so are the infinite floats' bits and a NaN's, as numbers.
func TestWildFloatsLaid(t *testing.T) {
	b := PutFloat(PutFloat(PutFloat(nil, math.Inf(1)), math.NaN()), math.Inf(-1))
	r := New(b)
	for i, is := range []func(f float64) bool{func(f float64) bool { return math.IsInf(f, 1) }, math.IsNaN, func(f float64) bool { return math.IsInf(f, -1) }} {
		if f, err := r.Float(); f != 0 || err != api.ErrOctetsForm {
			t.Fatalf("Float of no finite one, %d: %v, %v", i, f, err)
		}
		if n, err := r.Number(); err != api.OK || !is(math.Float64frombits(n)) {
			t.Fatalf("Number of the bits of %d: %x, %v", i, n, err)
		}
	}
}
