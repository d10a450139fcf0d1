package script

import (
	"math"
	"math/big"
	"regexp"
	"slices"
	"strconv"
	"strings"
	"testing"

	"incline/api"
)

const top = math.MaxUint64

// table is the chapter's.
var table = []struct {
	word string
	nums int
}{
	{"map", 3}, {"put", 2}, {"del", 1}, {"get", 1}, {"floor", 1}, {"ceil", 1},
	{"rank", 1}, {"range", 2}, {"stats", 0}, {"path", 2}, {"save", 0}, {"load", 0},
}

var (
	// someNumbers are those at which digits, or bits, end.
	someNumbers = []uint64{0, 1, 7, 9, 10, 11, 99, 100, 1<<31 - 1, 1 << 31, 1<<32 - 1, 1 << 32, 1<<53 + 1, 1<<63 - 1, 1 << 63, 9999999999999999999, 10000000000000000000, top - 5, top - 1, top}
	// noNumbers are words that are none.
	noNumbers = []string{
		"01", "00", "000", "007", "0000000000000000000000", "-1", "-0", "+1", "+0", "--1", "-", "+", "1x", "x1", "x", "0x1", "0x", "0b1", "0o7", "1_0", "1.0", "1.", ".1", "1e3", "1,0", "'1'", "\"1\"", "1#", "#1", "#",
		"18446744073709551616", "18446744073709551617", "18446744073709551620", "18446744073709551625", "18446744073709552000", "18446744083709551615", "19446744073709551615", "20000000000000000000", "28446744073709551615", "99999999999999999999",
		"100000000000000000000", "184467440737095516150", "340282366920938463463374607431768211456", "018446744073709551615", "1" + strings.Repeat("0", 1000), strings.Repeat("9", 5000),
		"1\t", "\t1", "1\r", "\r", "\t", "\x00", "1\x00", "\x001", "1\v2", "1\f", "\xff", "1\xff", "\xff1", "\xc3", "1\xe2\x82", "\u00b2", "\u0661", "\uff11", "1\u00a0", "\u00a01", "\u2003", "\ufffd", "\u0131", "1\u0085", "get", "put",
	}
	// noWords are words that are none of the table's.
	noWords = []string{
		"jump", "Get", "GET", "gEt", "ge", "gett", "et", "g", "maps", "Map", "pu", "puts", "delete", "de", "flor", "floor.", "ceiling", "ranks", "ran", "ranges", "stat", "paths", "saved", "loads", "loa", "mapput", "get1", "1get", "0", "1", "18446744073709551616", "-", "-get", "get#", "!", "//", ";",
		"get\t", "\tget", "get\t1", "\t", "\t\t", "save\r", "\rsave", "\r", "save\x00", "\x00save", "\x00", "\v", "\f", "save\v", "\xff", "\xfe\xff", "\xffget", "get\xff", "\xc3", "\x80", "\u00a0", "\u00a0get", "get\u00a0", "\u2003", "\u0085", "\ufeffget", "g\u0435t", "\uff47et", "\u00ff", "\U0001f600",
		strings.Repeat("get", 100), "\t#", "\x00#", "\xff#", "\u00a0#", "\u2003#",
	}
	// lands are lines that say nothing.
	lands = []string{"", " ", "  ", strings.Repeat(" ", 300), "#", "# all", "#get 5", " #", "   # jump", "##", "#\t", "# \xff\x00\r", "#1 2 3 4 5", " #x "}
)

// scatter gives words without a pattern, of all lengths, always the same ones.
func scatter() func() uint64 {
	x := uint64(0x9e3779b97f4a7c15)
	next := func() uint64 {
		x ^= x << 13
		x ^= x >> 7
		x ^= x << 17
		return x
	}
	return func() uint64 { return next() >> (next() % 64) }
}

func say(word string, nums ...uint64) api.Command { return api.Command{Word: word, Nums: nums} }

func list(l ...api.Command) []api.Command { return l }

func same(a, b api.Command) bool { return a.Word == b.Word && slices.Equal(a.Nums, b.Nums) }

func alike(a, b []api.Command) bool { return slices.EqualFunc(a, b, same) }

// short is as much of a text as is worth telling.
func short(text string) string {
	if len(text) > 200 {
		return strconv.Quote(text[:200]) + ".."
	}
	return strconv.Quote(text)
}

// want holds Parse of a text to what it should answer.
func want(t *testing.T, text string, l []api.Command, at int, e api.Errno) {
	t.Helper()
	got, line, err := Parse(text)
	if !alike(got, l) || line != at || err != e {
		t.Fatalf("Parse of %s: %.200v, line %d, %d; not %.200v, line %d, %d", short(text), got, line, err, l, at, e)
	}
}

func taken(t *testing.T, text string, l ...api.Command) {
	t.Helper()
	want(t, text, l, 0, api.OK)
}

func refused(t *testing.T, text string, at int, e api.Errno) {
	t.Helper()
	want(t, text, nil, at, e)
}

var form = regexp.MustCompile(`\A(0|[1-9][0-9]*)\z`)

// plainNumber tells by the chapter's words whether a word is a NUMBER.
func plainNumber(word string) (uint64, bool) {
	if !form.MatchString(word) {
		return 0, false
	}
	n, _ := new(big.Int).SetString(word, 10)
	return n.Uint64(), n.IsUint64()
}

// plainLine reads a line by the chapter's words, so many commands standing ahead of it; false, if it says nothing.
func plainLine(line string, ahead int) (api.Command, bool, api.Errno) {
	var words []string
	for _, w := range strings.Split(line, " ") {
		if w != "" {
			words = append(words, w)
		}
	}
	if len(words) == 0 || words[0][0] == '#' {
		return api.Command{}, false, api.OK
	}
	if ahead >= 4096 {
		return api.Command{}, true, api.ErrScriptLong
	}
	c, nums := api.Command{Word: words[0]}, -1
	for _, x := range table {
		if x.word == c.Word {
			nums = x.nums
		}
	}
	if nums < 0 {
		return api.Command{}, true, api.ErrScriptCommand
	}
	if len(words)-1 != nums {
		return api.Command{}, true, api.ErrScriptWords
	}
	for _, w := range words[1:] {
		n, is := plainNumber(w)
		if !is {
			return api.Command{}, true, api.ErrScriptNumber
		}
		c.Nums = append(c.Nums, n)
	}
	return c, true, api.OK
}

// plainParse is Parse by the chapter's words.
func plainParse(text string) ([]api.Command, int, api.Errno) {
	if len(text) > 65536 {
		return nil, 0, api.ErrScriptLong
	}
	var l []api.Command
	for i, line := range strings.Split(text, "\n") {
		c, says, e := plainLine(line, len(l))
		if e != api.OK {
			return nil, i + 1, e
		}
		if says {
			l = append(l, c)
		}
	}
	return l, 0, api.OK
}

func againstPlain(t *testing.T, text string) {
	t.Helper()
	l, at, e := plainParse(text)
	want(t, text, l, at, e)
}

// someCommand is a command that may be.
func someCommand(next func() uint64) api.Command {
	x := table[next()>>8%uint64(len(table))]
	c := api.Command{Word: x.word}
	for range x.nums {
		n := next()
		if next()>>8%3 == 0 {
			n = someNumbers[next()>>8%uint64(len(someNumbers))]
		}
		c.Nums = append(c.Nums, n)
	}
	return c
}

func someCommands(n int, next func() uint64) []api.Command {
	var l []api.Command
	for range n {
		l = append(l, someCommand(next))
	}
	return l
}

// plainPrint is the text of commands by the chapter's words.
func plainPrint(l []api.Command) string {
	var s strings.Builder
	for _, c := range l {
		s.WriteString(c.Word)
		for _, n := range c.Nums {
			s.WriteString(" " + new(big.Int).SetUint64(n).String())
		}
		s.WriteString("\n")
	}
	return s.String()
}

// ofLength is a text of just n bytes: command lines of 16 bytes, and one that makes up for the rest, each with its byte 10.
func ofLength(t *testing.T, n int) (string, []api.Command) {
	t.Helper()
	var l []api.Command
	for n >= 16+48 {
		l = append(l, say("get", 12345678901))
		n -= 16
	}
	for n > 0 { // "put 1.. 1..\n" has 8 bytes and more, up to 45
		k := min(n, 40)
		if n-k > 0 && n-k < 8 {
			k = n - 8
		}
		first := min(k-7, 20)
		l = append(l, say("put", tens(first), tens(k-6-first)))
		n -= k
	}
	return plainPrint(l), l
}

// tens is a number of so many digits.
func tens(digits int) uint64 {
	n := uint64(1)
	for range digits - 1 {
		n *= 10
	}
	return n
}

// P21.1: the chapter's examples.
func TestParseExamples(t *testing.T) {
	taken(t, "put 1 10\n\n# all\n  range 0   9 ", say("put", 1, 10), say("range", 0, 9))
	taken(t, "")
	refused(t, "jump 5", 1, api.ErrScriptCommand)
	refused(t, "get", 1, api.ErrScriptWords)
	refused(t, "get 1 2", 1, api.ErrScriptWords)
	refused(t, "get 01", 1, api.ErrScriptNumber)
	refused(t, "get 5\nGet 5", 2, api.ErrScriptCommand)
	refused(t, "get 18446744073709551616", 1, api.ErrScriptNumber)
	refused(t, "put -1 2", 1, api.ErrScriptNumber)
}

// P21.1: every word of the table with as many numbers as it says, with fewer, and with more.
func TestParseEveryWord(t *testing.T) {
	for _, x := range table {
		for n := range 8 {
			text, c := x.word, say(x.word)
			for i := range n {
				text += " " + strconv.Itoa(10*i+3)
				c.Nums = append(c.Nums, uint64(10*i+3))
			}
			for _, end := range []string{"", "\n", "\n\n", "\n#\n "} {
				if n == x.nums {
					taken(t, text+end, c)
					taken(t, text+"\n"+text+end, c, c)
				} else {
					refused(t, text+end, 1, api.ErrScriptWords)
					refused(t, "save\n"+text+end, 2, api.ErrScriptWords)
				}
			}
		}
	}
	refused(t, "map"+strings.Repeat(" 1", 30000), 1, api.ErrScriptWords)
	refused(t, strings.Repeat("save ", 13000), 1, api.ErrScriptWords)
}

// P21.1: no text, lines without words, lines whose first word begins with #; a last line with a byte 10 behind it, and without.
func TestParseSaysNothing(t *testing.T) {
	for _, a := range lands {
		taken(t, a)
		for _, b := range lands {
			taken(t, a+"\n"+b)
			taken(t, a+"\nget 5\n"+b, say("get", 5))
			refused(t, a+"\n"+b+"\njump", 3, api.ErrScriptCommand)
		}
	}
	taken(t, "get 5", say("get", 5))
	taken(t, "get 5\n", say("get", 5))
	taken(t, "\nget 5", say("get", 5))
	taken(t, strings.Repeat("\n", 65536))
	taken(t, strings.Repeat(" ", 65536))
	taken(t, "#"+strings.Repeat("x", 65535))
	refused(t, "get #5", 1, api.ErrScriptNumber)
	refused(t, "get 5 # five", 1, api.ErrScriptWords)
	refused(t, "get 5#", 1, api.ErrScriptNumber)
	refused(t, "save #", 1, api.ErrScriptWords)
}

// P21.1: numbers from 0 to 2^64 - 1, and words that are none, in every place of every command.
func TestParseNumbers(t *testing.T) {
	for _, x := range table {
		for i := range x.nums {
			for _, n := range someNumbers {
				c := say(x.word, make([]uint64, x.nums)...)
				c.Nums[i] = n
				taken(t, plainPrint(list(c)), c)
			}
			for _, bad := range noNumbers {
				words := slices.Repeat([]string{"5"}, x.nums)
				words[i] = bad
				line := x.word + " " + strings.Join(words, " ")
				refused(t, line, 1, api.ErrScriptNumber)
				refused(t, "#\nsave\n"+line+"\n", 3, api.ErrScriptNumber)
			}
		}
	}
	for n := range uint64(3000) {
		taken(t, "get "+strconv.FormatUint(n, 10), say("get", n))
		taken(t, "get "+strconv.FormatUint(top-n, 10), say("get", top-n))
	}
	over := new(big.Int).Lsh(big.NewInt(1), 64)
	for range 3000 {
		refused(t, "get "+over.String(), 1, api.ErrScriptNumber)
		over.Add(over, big.NewInt(1))
	}
	taken(t, "get 18446744073709551615", say("get", top))
	taken(t, "map 0 0 18446744073709551615", say("map", 0, 0, top))
}

// P21.1: numbers of all lengths, by a plain reader.
func TestParseNumbersAgainstPlain(t *testing.T) {
	next := scatter()
	for range 20000 {
		b := []byte("get ")
		for range 1 + next()>>8%22 {
			b = append(b, '0'+byte(next()>>8%10))
		}
		againstPlain(t, string(b))
		n := new(big.Int).Mul(new(big.Int).SetUint64(next()), big.NewInt(int64(1+next()>>8%11)))
		againstPlain(t, "get "+n.String())
	}
}

// P21.1: words that are none of the table's, whatever stands behind them.
func TestParseNoCommand(t *testing.T) {
	for _, w := range noWords {
		for _, behind := range []string{"", " ", " 1", " 1 2", " 1 2 3", " 01 x", " #", "\n", "\nsave", "\njump", " get 5"} {
			refused(t, w+behind, 1, api.ErrScriptCommand)
			refused(t, "  "+w+behind, 1, api.ErrScriptCommand)
			refused(t, "save\n\n"+w+behind, 3, api.ErrScriptCommand)
		}
	}
}

// P21.1: blanks ahead of, between and behind the words, as many as there are; nothing else parts words.
func TestParseBlanks(t *testing.T) {
	for _, blanks := range []string{" ", "  ", "   ", strings.Repeat(" ", 2000)} {
		taken(t, blanks+"put 1 2", say("put", 1, 2))
		taken(t, "put"+blanks+"1 2", say("put", 1, 2))
		taken(t, "put 1"+blanks+"2", say("put", 1, 2))
		taken(t, "put 1 2"+blanks, say("put", 1, 2))
		taken(t, "put 1 2"+blanks+"\n"+blanks+"save"+blanks+"\n"+blanks, say("put", 1, 2), say("save"))
	}
	for r := range rune(0x3100) { // all that is white somewhere is in there
		if r != ' ' && r != '\n' {
			refused(t, "get"+string(r)+"5", 1, api.ErrScriptCommand)
			refused(t, "get "+string(r)+" 5", 1, api.ErrScriptWords)
			if r < '0' || r > '9' {
				refused(t, "get 5"+string(r), 1, api.ErrScriptNumber)
				refused(t, "get "+string(r), 1, api.ErrScriptNumber)
			}
			if r != '#' {
				refused(t, string(r)+"save", 1, api.ErrScriptCommand)
			}
			refused(t, "save"+string(r), 1, api.ErrScriptCommand)
			refused(t, "save "+string(r), 1, api.ErrScriptWords)
		}
	}
}

// P21.1: any bytes stand in words and behind #: a tab, a byte 13, a byte 0, bytes that are no UTF-8.
func TestParseBytes(t *testing.T) {
	for a := range 256 {
		for b := range 256 {
			two := string([]byte{byte(a), byte(b)})
			againstPlain(t, two)
			againstPlain(t, "save"+two)
			againstPlain(t, two+"save")
			againstPlain(t, "get "+two)
			againstPlain(t, "get 5"+two)
			againstPlain(t, "get"+two+"5")
			againstPlain(t, "put 1"+two+"2")
			againstPlain(t, "save\n#"+two+"\nload")
		}
	}
	refused(t, "save\r\nload\r\n", 1, api.ErrScriptCommand)
	refused(t, "get 5\r\n", 1, api.ErrScriptNumber)
	refused(t, "\r\n", 1, api.ErrScriptCommand)
	refused(t, "get\t5", 1, api.ErrScriptCommand)
	taken(t, "# \xff\xfe\x00\r\t\nsave", say("save"))
}

// P21.1: two wrong things in one line: the command counts ahead of how many words there are, and that ahead of the numbers.
func TestParseTwoWrongThings(t *testing.T) {
	refused(t, "jump x", 1, api.ErrScriptCommand)
	refused(t, "Put 1", 1, api.ErrScriptCommand)
	refused(t, "get x y", 1, api.ErrScriptWords)
	refused(t, "put x", 1, api.ErrScriptWords)
	refused(t, "save 01", 1, api.ErrScriptWords)
	refused(t, "map 1 -2 3 4", 1, api.ErrScriptWords)
	refused(t, "put 01 02", 1, api.ErrScriptNumber)
	wrongs := []struct {
		line string
		e    api.Errno
	}{{"jump", api.ErrScriptCommand}, {"get", api.ErrScriptWords}, {"stats 1", api.ErrScriptWords}, {"get x", api.ErrScriptNumber}}
	for _, a := range wrongs {
		for _, b := range wrongs {
			refused(t, a.line+"\n"+b.line, 1, a.e)
			refused(t, "save\n\n"+a.line+"\n#\n"+b.line, 3, a.e)
		}
	}
}

// P21.1: a text of MaxText bytes, and of one more: of that one nothing else is told, whatever is wrong in it.
func TestParseLongText(t *testing.T) {
	for _, n := range []int{65535, 65536} {
		text, l := ofLength(t, n)
		if len(text) != n {
			t.Fatalf("%d bytes, not %d", len(text), n)
		}
		taken(t, text, l...)
		refused(t, text[:n-1]+"x", len(l), api.ErrScriptNumber)
	}
	text, l := ofLength(t, 65536)
	if len(l) > 4096 {
		t.Fatalf("%d commands", len(l))
	}
	for _, long := range []string{text + "\n", "\n" + text, text + " ", text + "#", text + text, strings.Repeat("\n", 65537), strings.Repeat(" ", 65537), strings.Repeat("x", 65537), "jump\n" + text, strings.Repeat("save\n", 20000), "#" + strings.Repeat("\xff", 65536)} {
		refused(t, long, 0, api.ErrScriptLong)
	}
	taken(t, "save"+strings.Repeat(" ", 65532), say("save"))
	taken(t, strings.Repeat(" ", 65532)+"save", say("save"))
	refused(t, strings.Repeat("x", 65536), 1, api.ErrScriptCommand)
	refused(t, strings.Repeat("\n", 65535)+"x", 65536, api.ErrScriptCommand)
}

// P21.1: MaxLines commands, and one more, whose line's number is told: lines that say nothing are no commands, but they are lines.
func TestParseManyCommands(t *testing.T) {
	many := strings.Repeat("save\n", 4096)
	all := slices.Repeat(list(say("save")), 4096)
	taken(t, many, all...)
	taken(t, many[:len(many)-1], all...)
	taken(t, many+"\n#\n  \n# save", all...)
	taken(t, "\n#\n"+many, all...)
	taken(t, strings.Repeat("save\n\n#x\n", 4096), all...)
	for _, one := range []string{"save", "jump", "get", "get x", " save "} { // that there are too many comes ahead of what is wrong with it
		refused(t, many+one, 4097, api.ErrScriptLong)
		refused(t, many+"\n"+one, 4098, api.ErrScriptLong)
		refused(t, many+"# save\n \n"+one+"\njump", 4099, api.ErrScriptLong)
		refused(t, "\n"+many+one, 4098, api.ErrScriptLong)
		refused(t, strings.Repeat("save\n", 2000)+"#\n"+strings.Repeat("save\n", 2096)+one, 4098, api.ErrScriptLong)
	}
	refused(t, many+many, 4097, api.ErrScriptLong)
	refused(t, strings.Repeat("save\n", 4095)+"jump\nsave\nsave", 4096, api.ErrScriptCommand)
	refused(t, "jump\n"+many+"save", 1, api.ErrScriptCommand)
}

// P21.1, T7: texts put together of pieces, by a plain reader.
func TestParseAgainstPlain(t *testing.T) {
	pieces := []string{" ", "  ", "\n", "\n", "#", "put", "get", "save", "range", "map", "Get", "0", "5", "10", "01", "-1", "18446744073709551615", "18446744073709551616", "\t", "\r", "\x00", "\xff", "x"}
	for _, a := range pieces {
		for _, b := range pieces {
			for _, c := range pieces {
				for _, d := range pieces {
					againstPlain(t, a+b+c+d)
					againstPlain(t, "get "+a+b+c+d)
				}
			}
		}
	}
	next := scatter()
	for range 50000 {
		var text strings.Builder
		for range next() >> 8 % 20 {
			text.WriteString(pieces[next()>>8%uint64(len(pieces))])
		}
		againstPlain(t, text.String())
	}
}

// P21.1: whole scripts with a byte changed, left out, or put in anywhere, by a plain reader.
func TestParseDamaged(t *testing.T) {
	text := "map 2 4 100\nput 1 10\n\n# all\n  range 0   9 \ndel 18446744073709551615\nstats\npath 0 7\nsave\nload"
	for i := range len(text) {
		againstPlain(t, text[:i])
		againstPlain(t, text[i:])
		againstPlain(t, text[:i]+text[i+1:])
		for b := range 256 {
			one := string([]byte{byte(b)})
			againstPlain(t, text[:i]+one+text[i+1:])
			againstPlain(t, text[:i]+one+text[i:])
		}
	}
}

// R3, R4: a command without numbers has no list; no two lists share memory, spare room too, of one call or of two.
func TestParseMemory(t *testing.T) {
	text := strings.Repeat("put 1 2\nmap 3 4 5\nget 6\nsave\n", 20)
	a, _, errA := Parse(text)
	b, _, errB := Parse(text)
	if errA != api.OK || errB != api.OK || !alike(a, b) {
		t.Fatal("two calls differ")
	}
	for i, c := range a {
		nums := c.Nums[:cap(c.Nums)]
		for k := range nums {
			nums[k] = 99
		}
		if !alike(a[i+1:], b[i+1:]) {
			t.Fatalf("command %d shares memory with one behind it", i)
		}
	}
	clear(a[:cap(a)])
	l, _, _ := plainParse(text)
	if !alike(b, l) {
		t.Error("two calls share memory")
	}
	if l, _, _ := Parse(""); len(l) != 0 {
		t.Errorf("%v of no text", l)
	}
}

// P21.2: the chapter's examples.
func TestPrintExamples(t *testing.T) {
	printed(t, list(say("save"), say("path", 0, 7)), "save\npath 0 7\n")
	unprinted(t, list(say("get", 1, 2)), api.ErrScriptWords)
	unprinted(t, list(say("Save")), api.ErrScriptCommand)
}

func printed(t *testing.T, l []api.Command, text string) {
	t.Helper()
	if s, e := Print(l); s != text || e != api.OK {
		t.Fatalf("Print of %.200v: %s, %d; not %s", l, short(s), e, short(text))
	}
}

func unprinted(t *testing.T, l []api.Command, e api.Errno) {
	t.Helper()
	if s, err := Print(l); s != "" || err != e {
		t.Fatalf("Print of %.200v: %s, %d; not %d", l, short(s), err, e)
	}
}

// P21.2: every word with as many numbers as the table says, with fewer, and with more.
func TestPrintEveryWord(t *testing.T) {
	for _, x := range table {
		for n := range 8 {
			c := say(x.word)
			for i := range n {
				c.Nums = append(c.Nums, someNumbers[len(someNumbers)-1-i])
			}
			if n != x.nums {
				unprinted(t, list(c), api.ErrScriptWords)
				unprinted(t, list(say("save"), c, say("load")), api.ErrScriptWords)
				continue
			}
			printed(t, list(c), plainPrint(list(c)))
			printed(t, list(c, say("stats"), c), plainPrint(list(c))+"stats\n"+plainPrint(list(c)))
		}
		for _, n := range someNumbers {
			c := say(x.word, slices.Repeat([]uint64{n}, x.nums)...)
			printed(t, list(c), x.word+strings.Repeat(" "+new(big.Int).SetUint64(n).String(), x.nums)+"\n")
		}
	}
	printed(t, nil, "")
	printed(t, list(), "")
	printed(t, list(api.Command{Word: "save", Nums: nil}, api.Command{Word: "save", Nums: []uint64{}}), "save\nsave\n")
	unprinted(t, list(say("map", make([]uint64, 1<<20)...)), api.ErrScriptWords)
}

// P21.2: words that are none of the table's, however many numbers stand there; blanks and bytes 10 about a word make another one of it.
func TestPrintNoCommand(t *testing.T) {
	for _, w := range slices.Concat(noWords, lands, []string{" save", "save ", "save\n", "\nsave", "save load", "save\nload", "get 5", "put 1 2\n#", "# all"}) {
		for n := range 5 {
			unprinted(t, list(say(w, make([]uint64, n)...)), api.ErrScriptCommand)
			unprinted(t, list(say("save"), say(w, make([]uint64, n)...)), api.ErrScriptCommand)
		}
	}
	unprinted(t, list(api.Command{}), api.ErrScriptCommand)
}

// P21.2: of several things that are wrong the first: too many commands, then command by command, then too long a text.
func TestPrintOrder(t *testing.T) {
	jump, bare := say("jump"), say("get")
	unprinted(t, list(jump, bare), api.ErrScriptCommand)
	unprinted(t, list(bare, jump), api.ErrScriptWords)
	unprinted(t, list(say("jump", 1, 2, 3, 4)), api.ErrScriptCommand)
	unprinted(t, slices.Repeat(list(jump), 4097), api.ErrScriptLong)
	unprinted(t, slices.Repeat(list(bare), 4097), api.ErrScriptLong)
	unprinted(t, slices.Repeat(list(jump), 4096), api.ErrScriptCommand)
	long := slices.Repeat(list(say("put", top, top)), 4095)
	unprinted(t, long, api.ErrScriptLong)
	unprinted(t, append(slices.Clone(long), jump), api.ErrScriptCommand)
	unprinted(t, append(slices.Clone(long), bare), api.ErrScriptWords)
	unprinted(t, append(slices.Clone(long), say("save"), jump), api.ErrScriptLong)
	unprinted(t, append(list(bare), long...), api.ErrScriptWords)
}

// P21.2: MaxLines commands, and one more; a text of MaxText bytes, and of one more.
func TestPrintLong(t *testing.T) {
	many := slices.Repeat(list(say("save")), 4096)
	printed(t, many, strings.Repeat("save\n", 4096))
	unprinted(t, append(many, say("save")), api.ErrScriptLong)
	for _, n := range []int{65500, 65535, 65536} {
		text, l := ofLength(t, n)
		printed(t, l, text)
	}
	for _, n := range []int{65537, 65538} {
		text, l := ofLength(t, n)
		if len(text) != n || len(l) > 4096 {
			t.Fatalf("%d bytes, %d commands", len(text), len(l))
		}
		unprinted(t, l, api.ErrScriptLong)
	}
	unprinted(t, slices.Repeat(list(say("map", top, top, top)), 4096), api.ErrScriptLong)
}

// R4: what Print and Op are handed is neither changed nor read behind its length.
func TestArgumentsStay(t *testing.T) {
	nums := []uint64{1, 2, 3}
	l := list(say("put", 1, 2), api.Command{Word: "get", Nums: nums[:1]}, say("jump"))
	was := list(say("put", 1, 2), say("get", 1), say("jump"))
	printed(t, l[:2], "put 1 2\nget 1\n")
	if o, is := Op(l[1]); !is || o != (api.Op{Kind: api.OpGet, Key: 1}) {
		t.Errorf("%v %v", o, is)
	}
	if !alike(l, was) || !slices.Equal(nums, []uint64{1, 2, 3}) {
		t.Errorf("%v, %v", l, nums)
	}
	list := []api.Pair{{Key: 3, Value: 30}, {Key: 4, Value: 40}, {Key: 5, Value: 50}}
	if s := Tell(api.Op{Kind: api.OpRange}, api.Answer{List: list[:2]}); s != "2 3 30 4 40" {
		t.Errorf("%q", s)
	}
	if !slices.Equal(list, []api.Pair{{Key: 3, Value: 30}, {Key: 4, Value: 40}, {Key: 5, Value: 50}}) {
		t.Errorf("%v", list)
	}
}

// P21.3: the chapter's examples, and every word with as many numbers as the table says, with fewer, and with more.
func TestOp(t *testing.T) {
	kinds := map[string]int{"put": api.OpPut, "del": api.OpDelete, "get": api.OpGet, "floor": api.OpFloor, "ceil": api.OpCeil, "rank": api.OpRank, "range": api.OpRange}
	if o, is := Op(say("range", 9, 3)); !is || o != (api.Op{Kind: api.OpRange, Key: 9, Value: 3}) {
		t.Errorf("%v %v", o, is)
	}
	for _, x := range table {
		for n := range 6 {
			for _, first := range someNumbers {
				c := say(x.word)
				for i := range n {
					c.Nums = append(c.Nums, first-uint64(i))
				}
				var should api.Op
				kind, right := kinds[x.word]
				right = right && n == x.nums
				if right {
					should = api.Op{Kind: kind, Key: first}
					if n == 2 {
						should.Value = first - 1
					}
				}
				if o, is := Op(c); is != right || o != should {
					t.Fatalf("Op of %v: %v, %v; not %v, %v", c, o, is, should, right)
				}
			}
		}
	}
}

// P21.3: words that are none, or none of an operation's.
func TestOpOfNone(t *testing.T) {
	for _, w := range slices.Concat(noWords, lands, []string{"map", "stats", "path", "save", "load", " get", "get ", "get\n", "put "}) {
		for n := range 5 {
			if o, is := Op(say(w, make([]uint64, n)...)); is || o != (api.Op{}) {
				t.Fatalf("Op of %q with %d numbers: %v, %v", w, n, o, is)
			}
		}
	}
	if o, is := Op(api.Command{}); is || o != (api.Op{}) {
		t.Errorf("%v %v", o, is)
	}
}

func told(t *testing.T, o api.Op, a api.Answer, text string) {
	t.Helper()
	if s := Tell(o, a); s != text {
		t.Fatalf("Tell of %v, %v: %s, not %s", o, a, short(s), short(text))
	}
}

// P21.4: the chapter's examples.
func TestTellExamples(t *testing.T) {
	told(t, api.Op{Kind: api.OpPut}, api.Answer{}, "ok")
	told(t, api.Op{Kind: api.OpPut}, api.Answer{Code: api.ErrFull}, "error 161")
	told(t, api.Op{Kind: api.OpDelete}, api.Answer{Is: true}, "yes")
	told(t, api.Op{Kind: api.OpGet}, api.Answer{Is: true, Value: 7}, "7")
	told(t, api.Op{Kind: api.OpFloor}, api.Answer{}, "none")
	told(t, api.Op{Kind: api.OpCeil}, api.Answer{Is: true, Key: 3, Value: 30}, "3 30")
	told(t, api.Op{Kind: api.OpRange}, api.Answer{List: []api.Pair{{Key: 3, Value: 30}, {Key: 4, Value: 40}}}, "2 3 30 4 40")
	told(t, api.Op{Kind: api.OpRank}, api.Answer{Num: 5}, "5")
	told(t, api.Op{Kind: 9}, api.Answer{Code: api.ErrArg}, "error 1")
	told(t, api.Op{Kind: 9}, api.Answer{}, "")
}

// P21.4: of every kind, with Is and without, and with anything in the fields that its kind does not tell.
func TestTellKinds(t *testing.T) {
	some := []api.Pair{{Key: 8, Value: 9}}
	for _, key := range someNumbers {
		for _, value := range someNumbers {
			k, v := new(big.Int).SetUint64(key).String(), new(big.Int).SetUint64(value).String()
			for _, o := range []api.Op{{}, {Key: 1, Value: 2}, {Key: top, Value: top}} {
				for _, a := range []api.Answer{{Key: key, Value: value}, {Key: key, Value: value, Num: 77, List: some}} {
					yes := a
					yes.Is = true
					for _, x := range []struct {
						kind    int
						is, not string
					}{
						{api.OpPut, "ok", "ok"}, {api.OpDelete, "yes", "no"}, {api.OpGet, v, "none"}, {api.OpFloor, k + " " + v, "none"}, {api.OpCeil, k + " " + v, "none"},
						{api.OpRank, strconv.Itoa(a.Num), strconv.Itoa(a.Num)}, {0, "", ""}, {8, "", ""}, {-1, "", ""}, {9, "", ""}, {math.MinInt, "", ""}, {math.MaxInt, "", ""},
					} {
						o.Kind = x.kind
						told(t, o, yes, x.is)
						told(t, o, a, x.not)
					}
				}
			}
		}
	}
}

// P21.4: a Code that is not OK comes ahead of all else, whatever kind it is of; one below 0 with a - ahead.
func TestTellCode(t *testing.T) {
	for kind := -3; kind < 12; kind++ {
		for _, x := range []struct {
			code api.Errno
			text string
		}{
			{api.ErrArg, "error 1"}, {api.ErrFull, "error 161"}, {api.ErrScriptLong, "error 210"}, {99999, "error 99999"}, {-1, "error -1"}, {-161, "error -161"},
			{math.MaxInt, "error 9223372036854775807"}, {math.MinInt, "error -9223372036854775808"},
		} {
			o := api.Op{Kind: kind, Key: 5, Value: 6}
			told(t, o, api.Answer{Code: x.code}, x.text)
			told(t, o, api.Answer{Code: x.code, Is: true, Key: 1, Value: 2, Num: 3, List: []api.Pair{{Key: 4, Value: 5}}}, x.text)
		}
	}
}

// P21.4: a rank of any int, the least one too.
func TestTellRank(t *testing.T) {
	for _, x := range []struct {
		num  int
		text string
	}{
		{0, "0"}, {1, "1"}, {9, "9"}, {10, "10"}, {-1, "-1"}, {-5, "-5"}, {-10, "-10"}, {1 << 32, "4294967296"},
		{math.MaxInt, "9223372036854775807"}, {math.MinInt + 1, "-9223372036854775807"}, {math.MinInt, "-9223372036854775808"},
	} {
		told(t, api.Op{Kind: api.OpRank}, api.Answer{Num: x.num}, x.text)
		told(t, api.Op{Kind: api.OpRank}, api.Answer{Num: x.num, Is: true, Key: 3, Value: 4}, x.text)
	}
}

// P21.4: a range of none, of one, and of many; in the order that List has, whatever that is.
func TestTellRange(t *testing.T) {
	o := api.Op{Kind: api.OpRange, Key: 1, Value: 2}
	told(t, o, api.Answer{}, "0")
	told(t, o, api.Answer{List: []api.Pair{}}, "0")
	told(t, o, api.Answer{Is: true, Num: 7, Key: 8, Value: 9}, "0")
	told(t, o, api.Answer{List: []api.Pair{{}}}, "1 0 0")
	told(t, o, api.Answer{List: []api.Pair{{Key: top, Value: top}}}, "1 18446744073709551615 18446744073709551615")
	told(t, o, api.Answer{List: []api.Pair{{Key: 9, Value: 1}, {Key: 2, Value: 3}, {Key: 9, Value: 1}}}, "3 9 1 2 3 9 1")
	next := scatter()
	for _, n := range []int{2, 9, 10, 11, 100, 5000} {
		var l []api.Pair
		text := strconv.Itoa(n)
		for range n {
			p := api.Pair{Key: next(), Value: next()}
			l = append(l, p)
			text += " " + new(big.Int).SetUint64(p.Key).String() + " " + new(big.Int).SetUint64(p.Value).String()
		}
		told(t, o, api.Answer{List: l}, text)
	}
}

// P21.5: Parse of what Print writes tells the same commands.
func TestThereAndBack(t *testing.T) {
	next := scatter()
	for i := range 400 {
		l := someCommands(i%60, next)
		text, e := Print(l)
		if e != api.OK || text != plainPrint(l) {
			t.Fatalf("Print of %v: %s, %d", l, short(text), e)
		}
		taken(t, text, l...)
		printed(t, l, text)
	}
	for _, n := range []int{65535, 65536} {
		text, l := ofLength(t, n)
		printed(t, l, text)
		taken(t, text, l...)
	}
	many := slices.Repeat(list(say("save"), say("get", 0)), 2048)
	text, _ := Print(many)
	taken(t, text, many...)
}

// scattered is a text that Parse takes: commands with blanks about them and lines that say nothing between them, and no byte 10 at its end, now and then.
func scattered(l []api.Command, next func() uint64) string {
	blanks := func() string { return strings.Repeat(" ", int(next()>>8%4)) }
	var lines []string
	for _, c := range l {
		for next()>>8%3 == 0 {
			lines = append(lines, lands[next()>>8%uint64(len(lands))])
		}
		line := blanks() + c.Word
		for _, n := range c.Nums {
			line += " " + blanks() + strconv.FormatUint(n, 10)
		}
		lines = append(lines, line+blanks())
	}
	if next()>>8%2 == 0 {
		lines = append(lines, "")
	}
	return strings.Join(lines, "\n")
}

// P21.5: Print takes what Parse takes, writes at most one byte more than there were, and Parse of that tells it again.
func TestBackAndThere(t *testing.T) {
	next := scatter()
	for i := range 400 {
		text := scattered(someCommands(i%50, next), next)
		l, at, e := Parse(text)
		if at != 0 || e != api.OK {
			t.Fatalf("Parse of %s: line %d, %d", short(text), at, e)
		}
		again, e := Print(l)
		if e != api.OK || len(again) > len(text)+1 || len(again) > len(text) && strings.HasSuffix(text, "\n") {
			t.Fatalf("Print of what %s tells: %s, %d", short(text), short(again), e)
		}
		taken(t, again, l...)
	}
}

// P21.5: a text of MaxText bytes without a byte 10 at its end is taken, but its commands' text would be one byte too long.
func TestTooLongToPrint(t *testing.T) {
	text, l := ofLength(t, 65537)
	if len(l) > 4096 {
		t.Fatalf("%d commands", len(l))
	}
	taken(t, text[:65536], l...)
	unprinted(t, l, api.ErrScriptLong)
	printed(t, l[1:], text[16:])
}

// P21.6: lines that say nothing, between any others, change nothing but the number of the line that is wrong.
func TestNothingChanges(t *testing.T) {
	for _, text := range []string{"", "save", "put 1 2\nget 5\nsave\n", "jump", "save\nget", "save\nload\nput 1 x\njump", "get 5\n\n#\nGet 5\nsave"} {
		l, at, e := Parse(text)
		lines := strings.Split(text, "\n")
		for i := range len(lines) + 1 {
			for _, land := range lands {
				line := at
				if i < at {
					line++
				}
				want(t, strings.Join(slices.Insert(slices.Clone(lines), i, land), "\n"), l, line, e)
			}
		}
	}
}

// P21.6: more blanks about any word change nothing, as long as the text is not too long.
func TestBlanksChangeNothing(t *testing.T) {
	for _, text := range []string{" ", "save ", "put 1 2 \n get 5\n# all \nsave", "jump 5", "save \nget 1 2", "load\nput 1 -2"} {
		l, at, e := Parse(text)
		for i := range len(text) + 1 {
			about := i == 0 || i == len(text) || strings.ContainsAny(text[i-1:i+1], " \n")
			for _, n := range []int{1, 2, 5, 1000, 65536 - len(text)} {
				if about {
					want(t, text[:i]+strings.Repeat(" ", n)+text[i:], l, at, e)
				}
			}
			refused(t, text[:i]+strings.Repeat(" ", 65537-len(text))+text[i:], 0, api.ErrScriptLong)
		}
	}
}

// P21.7: of two texts with a byte 10 between them the commands of the one, and then of the other.
func TestTogether(t *testing.T) {
	next := scatter()
	texts := slices.Clone(lands)
	for i := range 60 {
		texts = append(texts, scattered(someCommands(i%12, next), next))
	}
	for _, a := range texts {
		for _, b := range texts {
			one, atOne, errOne := Parse(a)
			other, atOther, errOther := Parse(b)
			if atOne != 0 || errOne != api.OK || atOther != 0 || errOther != api.OK {
				t.Fatalf("%s, %s: lines %d, %d", short(a), short(b), atOne, atOther)
			}
			taken(t, a+"\n"+b, slices.Concat(one, other)...)
		}
	}
}

// P21.7: two texts that together have too many commands, or too many bytes; and just not.
func TestTogetherTooMuch(t *testing.T) {
	half := strings.Repeat("save\n", 2048)
	taken(t, half+"\n"+half, slices.Repeat(list(say("save")), 4096)...)
	refused(t, half+"\n"+half+"\nsave", 4099, api.ErrScriptLong)
	refused(t, half+"save\n"+half, 4097, api.ErrScriptLong)
	a, l := ofLength(t, 32768)
	b, m := ofLength(t, 32767)
	taken(t, a+"\n"+b, slices.Concat(l, m)...)
	refused(t, a+"\n"+a, 0, api.ErrScriptLong)
}

// P21.1: a NUMBER has a digit at least. No word of a text is empty, so only number itself can be asked.
func TestNumberOfNothing(t *testing.T) {
	if n, is := number(""); n != 0 || is {
		t.Errorf("%d %v", n, is)
	}
}

// T7, R9: a call's answer hangs on its argument alone.
func TestAskedAgain(t *testing.T) {
	next := scatter()
	for range 200 {
		text := scattered(someCommands(10, next), next)
		first, _, _ := Parse(text)
		Parse("jump")
		Parse(strings.Repeat("save\n", 5000))
		taken(t, text, first...)
	}
}
