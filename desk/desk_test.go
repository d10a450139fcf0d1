package desk

import (
	"fmt"
	"maps"
	"math"
	"runtime"
	"slices"
	"strconv"
	"strings"
	"sync"
	"testing"
	"time"

	"incline/api"
	"incline/codec"
	"incline/probe"
	"incline/run"
	"incline/script"
)

const top = math.MaxUint64

// greatest is top as a word.
const greatest = "18446744073709551615"

// others are the commands but map, with small numbers.
var others = []string{"put 1 10", "del 1", "get 1", "floor 1", "ceil 1", "rank 1", "range 0 9", "stats", "path 0 1", "save", "load"}

// greats are these with the greatest numbers.
var greats = []string{
	"put " + greatest + " " + greatest, "get " + greatest, "floor " + greatest, "ceil " + greatest, "rank " + greatest,
	"range 0 " + greatest, "range " + greatest + " " + greatest, "range " + greatest + " 0",
	"path 0 " + greatest, "path " + greatest + " " + greatest, "del " + greatest,
}

// scatter gives words without a pattern, of all lengths, always the same ones.
func scatter() func() uint64 {
	x := uint64(0x9e3779b97f4a7c15)
	next := func() uint64 {
		x ^= x << 13
		x ^= x >> 7
		x ^= x << 17
		return x
	}
	return func() uint64 { return next() >> (next() % 64) }
}

// among is a number below n, whatever its length.
func among(next func() uint64, n int) int { return int(next() * 0x9e3779b97f4a7c15 >> 32 % uint64(n)) }

// plain is a tower by the chapters' words: the plain map, and what the buffer and the classes have.
type plain struct {
	config          api.Config
	live            map[uint64]uint64
	buffer          map[uint64]api.Entry
	classes         []map[uint64]api.Entry // one without entries: no run
	builds, written int
}

func newPlain(c api.Config) *plain {
	return &plain{config: c, live: map[uint64]uint64{}, buffer: map[uint64]api.Entry{}}
}

// clone is what a tower is that was saved and loaded.
func (p *plain) clone() *plain {
	q := newPlain(p.config)
	maps.Copy(q.live, p.live)
	maps.Copy(q.buffer, p.buffer)
	for _, one := range p.classes {
		q.classes = append(q.classes, maps.Clone(one))
	}
	return q
}

func sorted(m map[uint64]api.Entry) []api.Entry {
	var l []api.Entry
	for _, key := range slices.Sorted(maps.Keys(m)) {
		l = append(l, m[key])
	}
	return l
}

// liveAbove tells whether a key is live in the classes above one.
func (p *plain) liveAbove(class int, key uint64) bool {
	for i := class + 1; i < len(p.classes); i++ {
		if e, there := p.classes[i][key]; there {
			return !e.Gone
		}
	}
	return false
}

// lay puts an entry into the buffer, which goes into the classes when it is full.
func (p *plain) lay(e api.Entry) {
	p.buffer[e.Key] = e
	if len(p.buffer) < p.config.Buf {
		return
	}
	free := 0
	for free < len(p.classes) && len(p.classes[free]) > 0 {
		free++
	}
	if free == len(p.classes) {
		p.classes = append(p.classes, nil)
	}
	kept := map[uint64]api.Entry{}
	for i := free - 1; i >= 0; i-- {
		maps.Copy(kept, p.classes[i])
		p.classes[i] = nil
	}
	maps.Copy(kept, p.buffer)
	maps.DeleteFunc(kept, func(key uint64, e api.Entry) bool { return e.Gone && !p.liveAbove(free, key) })
	p.classes[free], p.buffer = kept, map[uint64]api.Entry{}
	if len(kept) > 0 {
		p.builds++
		p.written += len(kept)
	}
	for n := len(p.classes); n > 0 && len(p.classes[n-1]) == 0; n-- {
		p.classes = p.classes[:n-1]
	}
}

func (p *plain) put(key, value uint64) string {
	if _, is := p.live[key]; !is && len(p.live) >= p.config.Keys {
		return "error 161"
	}
	p.live[key] = value
	p.lay(api.Entry{Key: key, Value: value})
	return "ok"
}

func (p *plain) del(key uint64) string {
	if _, is := p.live[key]; !is {
		return "no"
	}
	delete(p.live, key)
	p.lay(api.Entry{Key: key, Gone: true})
	return "yes"
}

// between are the live keys from one to another, rising.
func (p *plain) between(from, to uint64) []uint64 {
	var l []uint64
	for key := range p.live {
		if key >= from && key <= to {
			l = append(l, key)
		}
	}
	slices.Sort(l)
	return l
}

// pair tells a key of some, counted from 0, with its value.
func (p *plain) pair(l []uint64, i int) string {
	if i < 0 || i >= len(l) {
		return "none"
	}
	return fmt.Sprint(l[i], " ", p.live[l[i]])
}

func (p *plain) get(key uint64) string {
	value, is := p.live[key]
	if !is {
		return "none"
	}
	return fmt.Sprint(value)
}

func (p *plain) floor(q uint64) string {
	l := p.between(0, q)
	return p.pair(l, len(l)-1)
}

func (p *plain) rank(q uint64) string {
	n := 0
	for key := range p.live {
		if key < q {
			n++
		}
	}
	return fmt.Sprint(n)
}

func (p *plain) stats() string {
	s := fmt.Sprint("stats ", len(p.live), " ", len(p.buffer), " ", p.builds, " ", p.written)
	for _, one := range p.classes {
		s += fmt.Sprint(" ", len(one))
	}
	return s
}

// run is the run of a class; nil, if there is none.
func (p *plain) run(class int) *run.Run {
	if len(p.classes[class]) == 0 {
		return nil
	}
	r, e := run.New(sorted(p.classes[class]), p.config.Eps)
	if e != api.OK {
		panic(e)
	}
	return r
}

func (p *plain) path(class, key uint64) string {
	if class >= uint64(len(p.classes)) || len(p.classes[class]) == 0 {
		return "none"
	}
	s := "path"
	for _, v := range probe.Path(p.run(int(class)), key) {
		s += fmt.Sprintf(" %d:%d:%d:%d:%d:%d", v.Level, v.Slot, v.Guess, v.Lo, v.Hi, v.Rank)
	}
	return s
}

// bytes is how many bytes the tower's are, by chapter 20.
func (p *plain) bytes() int {
	n := 4 + 3*8 + 8 + 8
	for _, e := range p.buffer {
		n += 9
		if !e.Gone {
			n += 8
		}
	}
	for i := range p.classes {
		n += 8
		if r := p.run(i); r != nil {
			n += len(codec.Put(r))
		}
	}
	return n
}

// book does a script by the chapter's words.
type book struct {
	tower, saved *plain
	pairs        int
}

func (b *book) newTower(eps, buf, most uint64) string {
	if eps < 2 || eps > 64 || buf < 1 || buf > 1<<32 || most < 1 || most > 1<<32 || 2*most+buf > 1<<32 {
		return "error 160"
	}
	b.tower = newPlain(api.Config{Eps: int(eps), Buf: int(buf), Keys: int(most)})
	return "ok"
}

func (b *book) list(from, to uint64) string {
	l := b.tower.between(from, to)
	if b.pairs+len(l) > 4096 {
		return fmt.Sprint(len(l), " ..")
	}
	b.pairs += len(l)
	s := fmt.Sprint(len(l))
	for i := range l {
		s += " " + b.tower.pair(l, i)
	}
	return s
}

// line is what a command tells.
func (b *book) line(command string) string {
	words := strings.Fields(command)
	n := make([]uint64, 3)
	for i, w := range words[1:] {
		n[i], _ = strconv.ParseUint(w, 10, 64)
	}
	if words[0] == "map" {
		return b.newTower(n[0], n[1], n[2])
	}
	if b.tower == nil {
		return "none"
	}
	switch p := b.tower; words[0] {
	case "put":
		return p.put(n[0], n[1])
	case "del":
		return p.del(n[0])
	case "get":
		return p.get(n[0])
	case "floor":
		return p.floor(n[0])
	case "ceil":
		return p.pair(p.between(n[0], top), 0)
	case "rank":
		return p.rank(n[0])
	case "range":
		return b.list(n[0], n[1])
	case "stats":
		return p.stats()
	case "path":
		return p.path(n[0], n[1])
	case "save":
		b.saved = p.clone()
		return fmt.Sprint("saved ", p.bytes())
	}
	if b.saved == nil {
		return "none"
	}
	b.tower = b.saved.clone()
	return "loaded"
}

// plainLines are what commands tell by the chapter's words, each with its byte 10.
func plainLines(l []string) []string {
	var b book
	var told []string
	for _, command := range l {
		told = append(told, b.line(command)+"\n")
	}
	return told
}

func together(l []string) string { return strings.Join(l, "\n") }

// lines does commands, one a line, and answers what each tells, with its byte 10.
func lines(t *testing.T, l []string) []string {
	t.Helper()
	s, at, e := Run(together(l))
	if at != 0 || e != api.OK {
		t.Fatalf("%.300q: line %d, %d", l, at, e)
	}
	told := strings.SplitAfter(s, "\n")
	if last := told[len(told)-1]; last != "" {
		t.Fatalf("%.300q: no byte 10 behind %.100q", l, last)
	}
	return told[:len(told)-1]
}

// equal holds what commands tell to what they should.
func equal(t *testing.T, l, got, want []string) {
	t.Helper()
	for i := range max(len(got), len(want)) {
		if i >= len(got) || i >= len(want) {
			t.Fatalf("%.300q: %d lines told, not %d", l, len(got), len(want))
		}
		if got[i] != want[i] {
			t.Fatalf("%.1000q: line %d, %s: %.300q, not %.300q", l[:i+1], i+1, l[i], got[i], want[i])
		}
	}
}

// against holds commands to what they tell by the chapter's words.
func against(t *testing.T, l []string) {
	t.Helper()
	equal(t, l, lines(t, l), plainLines(l))
}

// tells holds a script to what it should tell, both parted by commas.
func tells(t *testing.T, commands, told string) {
	t.Helper()
	l := strings.Split(commands, ",")
	var want []string
	for _, s := range strings.Split(told, ",") {
		want = append(want, s+"\n")
	}
	equal(t, l, lines(t, l), want)
	equal(t, l, plainLines(l), want)
}

// puts are commands that put the keys from one on, each with ten times its key.
func puts(first, n int) []string {
	var l []string
	for key := first; key < first+n; key++ {
		l = append(l, fmt.Sprint("put ", key, " ", 10*key))
	}
	return l
}

// someNumber is a key mostly below a bound.
func someNumber(next func() uint64, below int) uint64 {
	switch among(next, 20) {
	case 0:
		return []uint64{0, 1, 1<<31 - 1, 1 << 31, 1<<32 - 1, 1 << 32, 1<<53 + 1, 1<<63 - 1, 1 << 63, top - 1, top}[among(next, 11)]
	case 1:
		return next()
	}
	return uint64(among(next, below))
}

// someMap is a map command; one of ten is refused.
func someMap(next func() uint64) string {
	if among(next, 10) == 0 {
		return fmt.Sprint("map ", someNumber(next, 3), " ", someNumber(next, 3), " ", someNumber(next, 3))
	}
	eps := []int{2, 2, 2, 3, 7, 64}[among(next, 6)]
	return fmt.Sprint("map ", eps, " ", 1+among(next, 6), " ", 1+among(next, 60))
}

// someCommand is any command but a map; most of them change something.
func someCommand(next func() uint64, below int) string {
	key, other := someNumber(next, below), someNumber(next, below)
	switch among(next, 18) {
	case 0, 1, 2, 3, 4, 5:
		return fmt.Sprint("put ", key, " ", other)
	case 6, 7, 8:
		return fmt.Sprint("del ", key)
	case 9:
		return fmt.Sprint("get ", key)
	case 10:
		return fmt.Sprint("floor ", key)
	case 11:
		return fmt.Sprint("ceil ", key)
	case 12:
		return fmt.Sprint("rank ", key)
	case 13:
		return fmt.Sprint("range ", key, " ", other)
	case 14:
		return "stats"
	case 15:
		return fmt.Sprint("path ", someNumber(next, 6), " ", key)
	case 16:
		return "save"
	}
	return "load"
}

// someScript is n commands: maps now and then, the first one near the beginning.
func someScript(next func() uint64, n, below int) []string {
	var l []string
	for i := range n {
		if i < 3 && among(next, 2) == 0 || among(next, 60) == 0 {
			l = append(l, someMap(next))
			continue
		}
		l = append(l, someCommand(next, below))
	}
	return l
}

// P22.1: the chapter's examples.
func TestExamples(t *testing.T) {
	tells(t, "map 2 4 100,put 1 10,put 2 20,get 1,del 2,del 2,range 0 9,stats", "ok,ok,ok,10,yes,no,1 1 10,stats 1 2 0 0")
	tells(t, "get 1,map 1 1 1,map 2 1 1,put 5 6,put 7 8,path 0 5", "none,error 160,ok,ok,error 161,path 0:0:0:0:1:0")
	tells(t, "map 2 4 9,load,save,put 1 1,load,rank 9", "ok,none,saved 44,ok,loaded,0")
	refused(t, "jump 5", 1, api.ErrScriptCommand)
}

// P22.1: the document's examples 4 to 7, as a script.
func TestExamplesOfTheWhole(t *testing.T) {
	tells(t, "map 2 4 100,put 1 10,put 2 20,put 3 30,stats,put 4 40,stats,del 2,get 2,del 2,stats", "ok,ok,ok,ok,stats 3 3 0 0,ok,stats 4 0 1 4 4,yes,none,no,stats 3 1 1 4 4")
	tells(t, "map 2 4 100,put 1 10,put 2 20,put 3 30,put 4 40,del 2,put 5 50,put 6 60,put 7 70,stats,floor 2,ceil 2,rank 5,range 3 5,range 5 3,path 0 1,path 1 4,path 2 1",
		"ok,ok,ok,ok,ok,yes,ok,ok,ok,stats 6 0 2 10 0 6,1 10,3 30,3,3 3 30 4 40 5 50,0,none,path 0:0:2:0:5:2,none")
	tells(t, "map 2 4 2,put 1 1,put 2 2,put 3 3,put 1 4,del 2,put 3 3,range 0 9", "ok,ok,ok,error 161,ok,yes,ok,2 1 4 3 3")
}

// P22.1: of a text without commands nothing is told.
func TestNothing(t *testing.T) {
	for _, text := range []string{"", "\n", " ", "\n\n\n", "# map 2 4 9", " # all\n\n   \n#\n"} {
		if s, at, e := Run(text); s != "" || at != 0 || e != api.OK {
			t.Errorf("%q: %q, %d, %d", text, s, at, e)
		}
	}
}

// P22.1: lines that say nothing tell nothing, and blanks count for nothing; at the end a byte 10 may stand or not.
func TestLayout(t *testing.T) {
	want := "ok\nok\n10\n1 1 10\n"
	for _, text := range []string{
		"map 2 4 9\nput 1 10\nget 1\nrange 0 9", "map 2 4 9\nput 1 10\nget 1\nrange 0 9\n",
		"\n# a map\n  map  2 4   9 \n\nput 1 10\n #jump\nget 1\n\n\n range 0 9 \n\n",
	} {
		if s, at, e := Run(text); s != want || at != 0 || e != api.OK {
			t.Errorf("%q: %q, %d, %d", text, s, at, e)
		}
	}
}

// P22.1: ahead of the first map each other command tells none, and does nothing.
func TestAheadOfMap(t *testing.T) {
	for _, command := range slices.Concat(others, greats) {
		tells(t, command, "none")
		tells(t, command+","+command+",map 2 4 9,stats,load,rank "+greatest, "none,none,ok,stats 0 0 0 0,none,0")
		tells(t, "map 2 0 9,"+command+",map 2 4 9,stats", "error 160,none,ok,stats 0 0 0 0")
	}
	tells(t, strings.Join(others, ","), "none"+strings.Repeat(",none", len(others)-1))
}

// P22.1: each command behind a map, in a tower without keys, and in one with some.
func TestEachCommand(t *testing.T) {
	tells(t, "map 2 4 9,get 1,floor 1,ceil 1,rank 1,range 0 9,range 9 0,path 0 1,stats,del 1,load,save,load", "ok,none,none,none,0,0,0,none,stats 0 0 0 0,no,none,saved 44,loaded")
	tells(t, "map 2 4 9,put 3 30,get 3,floor 4,floor 2,ceil 2,ceil 4,rank 3,rank 4,range 0 9,range 4 9,path 0 3,stats,save,del 3,stats,load,get 3",
		"ok,ok,30,3 30,none,3 30,none,0,1,1 3 30,0,none,stats 1 1 0 0,saved 61,yes,stats 0 1 0 0,loaded,30")
	for _, command := range slices.Concat(others, greats) {
		for _, buf := range []int{1, 2, 3, 40} {
			for n := range 9 {
				l := append([]string{fmt.Sprint("map 2 ", buf, " 20")}, puts(1, n)...)
				against(t, append(l, command, "stats", "range 0 "+greatest, "save", command, command, "stats"))
			}
		}
	}
}

// P22.1: the greatest numbers in each command.
func TestGreatestNumbers(t *testing.T) {
	tells(t, strings.Join(append([]string{"map 2 1 9"}, greats...), ","), strings.Join([]string{
		"ok", "ok", greatest, greatest + " " + greatest, greatest + " " + greatest, "0",
		"1 " + greatest + " " + greatest, "1 " + greatest + " " + greatest, "0", "path 0:0:0:0:1:0", "none", "yes",
	}, ","))
	tells(t, "map "+greatest+" "+greatest+" "+greatest+",stats", "error 160,none")
	tells(t, "map 2 4 9,put "+greatest+" 0,put 0 "+greatest+",range 0 "+greatest+",rank "+greatest+",get 0", "ok,ok,ok,2 0 "+greatest+" "+greatest+" 0,1,"+greatest)
}

// P22.1: configs are taken just if tower.New takes them, numbers above MaxRun and above the greatest int being refused, too: also such that would be right if their upper bits were left out.
func TestConfigs(t *testing.T) {
	sizes := []uint64{0, 1, 2, 4, 1<<31 - 2, 1<<31 - 1, 1 << 31, 1<<31 + 1, 1<<32 - 3, 1<<32 - 2, 1<<32 - 1, 1 << 32, 1<<32 + 1, 1<<32 + 4, 1 << 33, 1<<62 + 1, 1<<63 - 1, 1 << 63, 1<<63 + 1, 1<<63 + 4, top - 3, top - 1, top}
	for _, eps := range []uint64{0, 1, 2, 3, 63, 64, 65, 1<<32 + 2, 1 << 32, 1<<63 + 2, 1 << 63, top - 1, top} {
		for _, buf := range sizes {
			for _, most := range sizes {
				against(t, []string{"map 3 5 7", "put 1 2", fmt.Sprint("map ", eps, " ", buf, " ", most), "stats", "put 3 4", "stats"})
			}
		}
	}
	tells(t, "map 2 1 2147483647,map 2 2 2147483647,map 2 3 2147483647,map 2 4294967294 1,map 2 4294967295 1,map 2 4294967296 1,map 64 1 1,map 65 1 1,map 1 1 1,map 2 0 1,map 2 1 0",
		"ok,ok,error 160,ok,error 160,error 160,ok,error 160,error 160,error 160,error 160")
}

// P22.1: a map stands in the place of the tower there was, of which nothing is left.
func TestMapInThePlace(t *testing.T) {
	tells(t, "map 2 1 9,put 1 10,put 2 20,stats,map 2 2 1,stats,get 1,path 1 1,range 0 9,put 3 30,put 4 40,map 2 2 1,put 4 40,stats", "ok,ok,ok,stats 2 0 2 3 0 2,ok,stats 0 0 0 0,none,none,0,ok,error 161,ok,ok,stats 1 1 0 0")
	tells(t, "map 2 4 9,put 1 10,map 2 4 9,get 1,stats", "ok,ok,ok,none,stats 0 0 0 0")
}

// P22.1: of a map that is refused nothing is changed: neither the tower nor what is saved.
func TestMapRefused(t *testing.T) {
	for _, wrong := range []string{"map 1 4 9", "map 65 4 9", "map 2 0 9", "map 2 4 0", "map 2 4 4294967297", "map 2 4294967300 9", "map 18446744073709551615 4 9", "map 4294967298 1 1", "map 2 9223372036854775808 9", "map 2 4 9223372036854775809"} {
		tells(t, "map 2 2 3,put 1 10,put 2 20,put 3 30,stats,"+wrong+",stats,range 0 9,put 4 40,put 3 33,stats,load", "ok,ok,ok,ok,stats 3 1 1 2 2,error 160,stats 3 1 1 2 2,3 1 10 2 20 3 30,error 161,ok,stats 3 1 1 2 2,none")
		tells(t, "map 2 2 3,put 1 10,save,put 1 11,"+wrong+",get 1,load,get 1", "ok,ok,saved 61,ok,error 160,11,loaded,10")
	}
}

// P22.1: what is saved stays: behind changes, behind a load, and behind another map, whose config a load takes back, too.
func TestSavedStays(t *testing.T) {
	tells(t, "map 2 4 9,load,get 1,save,load,load", "ok,none,none,saved 44,loaded,loaded")
	tells(t, "map 2 4 9,put 1 10,save,put 1 11,put 2 20,load,range 0 9,del 1,put 3 30,load,range 0 9,load,range 0 9", "ok,ok,saved 61,ok,ok,loaded,1 1 10,yes,ok,loaded,1 1 10,loaded,1 1 10")
	tells(t, "map 2 1 1,put 1 10,save,map 3 7 5,put 2 20,put 3 30,load,stats,put 2 20,path 0 1,get 1", "ok,ok,saved 129,ok,ok,ok,loaded,stats 1 0 0 0 1,error 161,path 0:0:0:0:1:0,10")
	tells(t, "map 2 4 1,save,map 2 4 2,put 1 10,put 2 20,load,put 3 30,put 4 40", "ok,saved 44,ok,ok,ok,loaded,ok,error 161")
	tells(t, "map 2 4 9,put 1 10,save,put 2 20,save,del 1,load,range 0 9", "ok,ok,saved 61,ok,saved 78,yes,loaded,2 1 10 2 20")
	tells(t, "save,map 2 4 9,load", "none,ok,none")
}

// P22.1: how many bytes are saved: entries with values and without, in the buffer and in runs, and classes without a run.
func TestSavedBytes(t *testing.T) {
	tells(t, "map 2 9 9,save,put 1 1,save,put 2 2,save,del 1,save,del 2,save", "ok,saved 44,ok,saved 61,ok,saved 78,yes,saved 70,yes,saved 62")
	for buf := range 6 {
		l := []string{fmt.Sprint("map 2 ", buf+1, " 30")}
		for _, command := range slices.Concat(puts(5, 20), []string{"del 7", "del 6", "del 5", "put 6 1", "del 24", "del 10"}) {
			l = append(l, command, "save", "stats")
		}
		against(t, l)
	}
}

// P22.1: a path goes down the run of its class, of keys that it has and of others; of a class without a run it tells none.
func TestPath(t *testing.T) {
	l := append([]string{"map 2 4 100"}, puts(1, 12)...)
	l = append(l, "stats")
	for _, class := range []uint64{0, 1, 2, 3, 39, 40, 41, 1<<32 - 1, 1 << 32, 1<<32 + 1, 1<<63 - 1, 1 << 63, 1<<63 + 1, top - 1, top} {
		for _, key := range []uint64{0, 1, 2, 5, 8, 9, 12, 13, top} {
			l = append(l, fmt.Sprint("path ", class, " ", key))
		}
	}
	against(t, l)
	tells(t, "map 2 4 9,put 10 1,put 20 2,put 30 3,path 0 10,put 40 4,path 0 10,path 0 35,path 0 99,path 1 10", "ok,ok,ok,ok,none,ok,path 0:0:1:0:4:0,path 0:0:1:0:4:3,path 0:0:3:0:4:4,none")
}

// P22.1: a visit is told for each level of a run, of runs of several levels.
func TestPathOfManyLevels(t *testing.T) {
	for _, eps := range []int{2, 3, 5} {
		l := []string{fmt.Sprint("map ", eps, " 256 300")}
		key := uint64(0)
		for i := range 256 {
			key += 1 + uint64(i*i*i*i)%97<<(i%7*8)
			l = append(l, fmt.Sprint("put ", key, " 0"))
		}
		n := len(l)
		for _, command := range l[1:n:n] {
			q, _ := strconv.ParseUint(strings.Fields(command)[1], 10, 64)
			l = append(l, fmt.Sprint("path 0 ", q), fmt.Sprint("path 0 ", q-1), fmt.Sprint("path 0 ", q+1))
		}
		against(t, l)
		if told := lines(t, l)[n]; len(strings.Fields(told)) < 3 {
			t.Errorf("eps %d: one level alone: %s", eps, told)
		}
	}
}

// P22.1: stats has the sizes up to the last class that has a run, noughts between them, and what was built.
func TestStats(t *testing.T) {
	tells(t, "map 2 1 9,stats,put 1 1,stats,put 2 2,stats,put 3 3,stats,put 4 4,stats,del 4,stats,del 3,stats", "ok,stats 0 0 0 0,ok,stats 1 0 1 1 1,ok,stats 2 0 2 3 0 2,ok,stats 3 0 3 4 1 2,ok,stats 4 0 4 8 0 0 4,yes,stats 3 0 5 9 1 0 4,yes,stats 2 0 6 11 0 2 4")
	tells(t, "map 2 1 9,put 1 1,del 1,stats,put 2 2,save,stats,load,stats,put 3 3,stats", "ok,ok,yes,stats 0 0 1 1,ok,saved 129,stats 1 0 2 2 1,loaded,stats 1 0 0 0 1,ok,stats 2 0 1 2 0 2")
}

// P22.1: a put where the tower is full tells the error, and the tower is as it was.
func TestFull(t *testing.T) {
	for most := 1; most < 10; most++ {
		for _, buf := range []int{1, 2, 3, 20} {
			l := append([]string{fmt.Sprint("map 2 ", buf, " ", most)}, puts(1, most)...)
			n := len(l)
			l = append(l, "stats", "range 0 99", "save", "put 50 5", "put 0 5", "put "+greatest+" 5", "stats", "range 0 99", "save", "put 1 7", "get 1", "del 1", "put 50 5", "put 51 5", "range 0 99", "stats")
			against(t, l)
			told := lines(t, l)
			if told[n+3] != "error 161\n" || told[n+4] != "error 161\n" || told[n+5] != "error 161\n" || told[n+9] != "ok\n" || told[n+12] != "ok\n" || told[n+13] != "error 161\n" {
				t.Errorf("%q: %q", l, told)
			}
			equal(t, l[n:n+3], told[n+6:n+9], told[n:n+3])
		}
	}
}

// repeat is a command, n times.
func repeat(command string, n int) []string { return slices.Repeat([]string{command}, n) }

// P22.1: ranges whose pairs come to just MaxTold are told, and one more is not; what was cut short does not count, and a small one behind it is told.
func TestRangesCutShort(t *testing.T) {
	start := append([]string{"map 2 8 100"}, puts(1, 64)...)
	full := "64"
	for key := 1; key <= 64; key++ {
		full += fmt.Sprint(" ", key, " ", 10*key)
	}
	for _, x := range []struct {
		behind []string
		told   string
	}{
		{repeat("range 1 64", 64), full},
		{repeat("range 0 "+greatest, 65), "64 .."},
		{append(repeat("range 1 64", 64), "range 5 5"), "1 .."},
		{append(repeat("range 1 64", 64), "range 70 80"), "0"},
		{append(repeat("range 1 64", 64), "range 5 4"), "0"},
		{append(repeat("range 1 64", 63), "range 1 63", "range 5 5"), "1 5 50"},
		{append(repeat("range 1 64", 63), "range 1 63", "range 5 6"), "2 .."},
		{append(repeat("range 1 64", 63), "range 1 63", "range 5 6", "range 1 64", "range 6 6"), "1 6 60"},
		{append(repeat("range 1 64", 63), "range 1 63", "range 5 6", "range 6 6", "range 7 7"), "1 .."},
		{append(repeat("range 1 64", 63), "range 1 60", "range 1 64", "range 1 5", "range 1 4"), "4 1 10 2 20 3 30 4 40"},
		{append(repeat("range 1 64", 63), "range 1 60", "range 1 4", "range 1 4"), "4 .."},
	} {
		l := slices.Concat(start, x.behind)
		against(t, l)
		if told := lines(t, l); told[len(told)-1] != x.told+"\n" {
			t.Errorf("%.100q: %s, not %s", x.behind[max(0, len(x.behind)-4):], told[len(told)-1], x.told)
		}
	}
}

// P22.1: the pairs of all ranges of a script count together, in whichever tower; no other command counts, and none is cut short.
func TestRangesOfManyTowers(t *testing.T) {
	l := append([]string{"map 2 8 100"}, puts(1, 32)...)
	l = append(l, "save")
	for range 32 {
		l = append(l, "range 1 32", "load", "range 1 32", "floor 5", "ceil 5", "get 5", "rank 5")
	}
	l = append(l, "map 2 1 1", "map 2 8 100")
	l = append(l, puts(1, 32)...)
	for range 31 {
		l = append(l, "range 1 32", "map 0 0 0", "range 40 50", "range 1 32")
	}
	l = append(l, "range 1 32", "range 1 31", "load", "range 1 32", "range 3 4", "range 3 3", "range 3 3", "range 3 2", "floor 5", "stats", "range 1 32")
	against(t, l)
	told := lines(t, l)
	equal(t, l[len(l)-8:], told[len(told)-8:], []string{"32 ..\n", "2 ..\n", "1 3 30\n", "1 ..\n", "0\n", "5 50\n", "stats 32 0 0 0 0 0 32\n", "32 ..\n"})
}

// P22.1: a script of as many commands as may be, whose one range has all its keys.
func TestGreatScript(t *testing.T) {
	l := append([]string{"map 2 16 4094"}, puts(0, 4094)...)
	against(t, append(slices.Clone(l), "range 0 "+greatest))
	against(t, append(slices.Clone(l), "stats"))
	s, at, e := Run(together(append(l, "stats", "stats")))
	if s != "" || at != 4097 || e != api.ErrScriptLong {
		t.Errorf("a command too many: %.100q, %d, %d", s, at, e)
	}
}

// refused holds a text to script.Parse's line and error, and to nothing told.
func refused(t *testing.T, text string, at int, e api.Errno) {
	t.Helper()
	s, line, err := Run(text)
	if s != "" || line != at || err != e {
		t.Errorf("%.100q: %.100q, line %d, %d; not line %d, %d", text, s, line, err, at, e)
	}
	if _, line, err := script.Parse(text); line != at || err != e {
		t.Errorf("%.100q: parsed: line %d, %d; not line %d, %d", text, line, err, at, e)
	}
}

// P22.1: of a text that script.Parse refuses nothing is told, wherever the wrong line stands.
func TestWrongTexts(t *testing.T) {
	for _, x := range []struct {
		line string
		e    api.Errno
	}{
		{"jump 5", api.ErrScriptCommand}, {"Map 2 4 9", api.ErrScriptCommand}, {"delete 5", api.ErrScriptCommand}, {"5", api.ErrScriptCommand}, {"save\r", api.ErrScriptCommand},
		{"map 2 4", api.ErrScriptWords}, {"map 2 4 9 9", api.ErrScriptWords}, {"get", api.ErrScriptWords}, {"put 1", api.ErrScriptWords}, {"range 1", api.ErrScriptWords}, {"path 0", api.ErrScriptWords}, {"stats 1", api.ErrScriptWords}, {"save 1", api.ErrScriptWords}, {"load 0", api.ErrScriptWords}, {"get 1 # one", api.ErrScriptWords},
		{"map 02 4 9", api.ErrScriptNumber}, {"map 2 4 18446744073709551616", api.ErrScriptNumber}, {"get -1", api.ErrScriptNumber}, {"put 1 x", api.ErrScriptNumber}, {"range 1 1.0", api.ErrScriptNumber}, {"path a 1", api.ErrScriptNumber},
	} {
		refused(t, x.line, 1, x.e)
		refused(t, x.line+"\nmap 2 4 9\nput 1 1\nget 1", 1, x.e)
		refused(t, "map 2 4 9\nput 1 1\n\nget 1\n"+x.line, 5, x.e)
		refused(t, "get 1\n"+x.line+"\n# all\nget 1", 2, x.e)
		refused(t, "map 1 1 1\nmap 2 1 1\nput 1 1\nput 2 2\n"+x.line+"\njump", 5, x.e)
	}
	refused(t, strings.Repeat(" ", 65537), 0, api.ErrScriptLong)
	refused(t, "map 2 4 9\n"+strings.Repeat("#\n", 32768), 0, api.ErrScriptLong)
	refused(t, strings.Repeat("stats\n", 4097), 4097, api.ErrScriptLong)
	refused(t, strings.Repeat("stats\n", 4096)+"\n#\njump", 4099, api.ErrScriptLong)
}

// P22.1, T1: scripts of changes and questions tell what the plain map answers.
func TestScripts(t *testing.T) {
	next := scatter()
	for i := range 1500 {
		against(t, someScript(next, 1+among(next, 120), 1+among(next, 5+i%90)))
	}
}

// P22.1: long scripts, in which ranges are cut short, too, in towers of many classes.
func TestLongScripts(t *testing.T) {
	next := scatter()
	for range 12 {
		l := []string{fmt.Sprint("map ", 2+among(next, 3), " ", 1+among(next, 5), " ", 100+among(next, 200))}
		for range 1500 {
			l = append(l, someCommand(next, 400))
		}
		against(t, l)
	}
}

// P22.1: all rows of few commands.
func TestAllShortRows(t *testing.T) {
	kinds := []string{"map 2 1 2", "map 2 2 1", "map 2 0 1", "put 1 10", "put 2 20", "del 1", "range 0 9", "stats", "path 0 1", "save", "load"}
	rows := [][]string{nil}
	for range 4 {
		var more [][]string
		for _, row := range rows {
			for _, kind := range kinds {
				more = append(more, append(slices.Clone(row), kind))
			}
		}
		for _, row := range more {
			against(t, row)
			against(t, append([]string{"map 2 2 2", "put 3 30"}, row...))
		}
		rows = more
	}
}

// P22.2: each beginning of a script's commands tells a beginning of what all tell, a line for each command.
func TestBeginnings(t *testing.T) {
	next := scatter()
	for range 60 {
		l := someScript(next, 80, 20)
		all := lines(t, l)
		if len(all) != len(l) {
			t.Fatalf("%q: %d lines told of %d commands", l, len(all), len(l))
		}
		for n := range l {
			s, at, e := Run(together(l[:n]))
			if s != strings.Join(all[:n], "") || at != 0 || e != api.OK {
				t.Fatalf("%q: %q, %d, %d, not %q", l[:n], s, at, e, all[:n])
			}
		}
	}
}

// P22.2: so it is where ranges are cut short.
func TestBeginningsCutShort(t *testing.T) {
	l := append([]string{"map 2 8 100"}, puts(1, 90)...)
	for i := range 60 {
		l = append(l, "range 0 "+greatest, fmt.Sprint("range ", i, " ", 2*i))
	}
	all := lines(t, l)
	for n := 80; n <= len(l); n++ {
		equal(t, l[:n], lines(t, l[:n]), all[:n])
	}
	if !strings.HasSuffix(all[len(all)-2], " ..\n") {
		t.Errorf("no range was cut short: %q", all[len(all)-2])
	}
}

// nextTower is how many commands stand ahead of the first one, from a place on, that puts another tower in the place of the one there is: a map that is taken, or a load.
func nextTower(l, told []string, from int) int {
	for i := from; i < len(l); i++ {
		if l[i] == "load" || strings.HasPrefix(l[i], "map") && told[i] == "ok\n" {
			return i
		}
	}
	return len(l)
}

// lessBuilt is what stats tells in a tower of which the first builds, and what they wrote, were forgotten.
func lessBuilt(t *testing.T, told string, builds, written int) string {
	t.Helper()
	words := strings.Fields(told)
	for i, less := range []int{0, 0, 0, builds, written} {
		if i == 0 {
			continue
		}
		n, e := strconv.Atoi(words[i])
		if e != nil {
			t.Fatal(told)
		}
		words[i] = strconv.Itoa(n - less)
	}
	return strings.Join(words, " ") + "\n"
}

// built is how many runs were built, and what they wrote, behind the first n commands.
func built(l []string, n int) (builds, written int) {
	var b book
	for _, command := range l[:n] {
		b.line(command)
	}
	if b.tower == nil {
		return 0, 0
	}
	return b.tower.builds, b.tower.written
}

// P22.3: a save and a load, put in anywhere, change nothing that later commands tell up to the next load, but Builds and Written, which begin at 0 there.
func TestSaveAndLoadBetween(t *testing.T) {
	next := scatter()
	for range 60 {
		l := someScript(next, 60, 15)
		all := lines(t, l)
		for n := 0; n <= len(l); n++ {
			with := slices.Concat(l[:n], []string{"save", "load"}, l[n:])
			got := lines(t, with)
			equal(t, with[:n], got[:n], all[:n])
			same := nextTower(l, all, n)
			builds, written := built(l, n)
			want := slices.Clone(all[:same])
			for i := n; i < same; i++ {
				if strings.HasPrefix(want[i], "stats") {
					want[i] = lessBuilt(t, want[i], builds, written)
				}
			}
			equal(t, l[n:same], got[n+2:same+2], want[n:])
		}
	}
}

// P22.3: in a script without loads nothing else is changed to its end, by any number of saves and loads.
func TestSavesAndLoadsEverywhere(t *testing.T) {
	next := scatter()
	counts := func(told string) string {
		words := strings.Fields(told)
		if words[0] == "stats" {
			words[3], words[4] = "-", "-"
		}
		return strings.Join(words, " ")
	}
	for range 200 {
		l := slices.DeleteFunc(someScript(next, 100, 30), func(s string) bool { return s == "load" })
		var with []string
		for _, command := range l {
			with = append(with, "save", "load", command)
		}
		all, got := lines(t, l), lines(t, with)
		for i := range l {
			if counts(all[i]) != counts(got[3*i+2]) {
				t.Fatalf("%q: %s: %q, not %q", l[:i+1], l[i], got[3*i+2], all[i])
			}
		}
	}
}

// P22.3: directly behind a load Builds and Written are 0; a later load has what was put in between.
func TestLoadForgetsBuilds(t *testing.T) {
	tells(t, "map 2 2 9,put 1 1,put 2 2,stats,save,load,stats,put 3 3,put 4 4,stats", "ok,ok,ok,stats 2 0 1 2 2,saved 146,loaded,stats 2 0 0 0 2,ok,ok,stats 4 0 1 4 0 4")
	tells(t, "map 2 4 9,put 1 1,load,get 1", "ok,ok,none,1")
	tells(t, "map 2 4 9,save,put 1 1,save,load,put 2 2,load,range 0 9", "ok,saved 44,ok,saved 61,loaded,ok,loaded,1 1 1")
}

// Ways: the table has what each command does, and nothing else.
func TestTable(t *testing.T) {
	words := []string{"ceil", "del", "floor", "get", "load", "map", "path", "put", "range", "rank", "save", "stats"}
	if got := slices.Sorted(maps.Keys(table())); !slices.Equal(got, words) {
		t.Errorf("%q", got)
	}
	for word, does := range table() {
		if does == nil {
			t.Errorf("%s: nothing is done", word)
		}
	}
}

// R9: what a script tells hangs on its text alone; of what another one did nothing is left.
func TestAskedAgain(t *testing.T) {
	next := scatter()
	for range 50 {
		l := someScript(next, 60, 20)
		first := lines(t, l)
		lines(t, append([]string{"map 2 1 50"}, append(puts(0, 50), "save")...))
		equal(t, l, lines(t, l), first)
		tells(t, "stats,load,map 2 4 9,load,get 1", "none,none,ok,none,none")
	}
}

// R8, R9: scripts that are done at the same time don't know of one another, and leave no goroutine behind.
func TestAtTheSameTime(t *testing.T) {
	ahead := runtime.NumGoroutine()
	next := scatter()
	var scripts, told []string
	for range 16 {
		l := someScript(next, 300, 50)
		scripts = append(scripts, together(l))
		told = append(told, strings.Join(plainLines(l), ""))
	}
	var all sync.WaitGroup
	for i := range scripts {
		all.Go(func() {
			for range 5 {
				if s, at, e := Run(scripts[i]); s != told[i] || at != 0 || e != api.OK {
					t.Errorf("script %d: %.200q, %d, %d, not %.200q", i, s, at, e, told[i])
				}
			}
		})
	}
	all.Wait()
	for range 1000 {
		if runtime.NumGoroutine() <= ahead {
			return
		}
		time.Sleep(time.Millisecond)
	}
	t.Errorf("%d goroutines, ahead %d", runtime.NumGoroutine(), ahead)
}

// R1: any bytes are a text: they are done, or refused, as script.Parse takes or refuses them.
func TestAnyBytes(t *testing.T) {
	next := scatter()
	pieces := append([]string{"\n", "\n", "\n", " ", "0", "1", "2", greatest, "18446744073709551616", "\x00", "\xff", "#", "\r", "map", "map 2 2 2\n"}, others...)
	for range 20000 {
		var b strings.Builder
		for range among(next, 12) {
			b.WriteString(pieces[among(next, len(pieces))])
		}
		text := b.String()
		s, at, e := Run(text)
		l, line, err := script.Parse(text)
		if at != line || e != err || strings.Count(s, "\n") != len(l) || e != api.OK && s != "" {
			t.Fatalf("%q: %q, %d, %d; parsed: %v, %d, %d", text, s, at, e, l, line, err)
		}
	}
}
