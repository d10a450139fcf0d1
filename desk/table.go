package desk

import (
	"strconv"
	"strings"

	"incline/api"
	"incline/ask"
	"incline/probe"
	"incline/script"
	"incline/store"
	"incline/tower"
)

// makes is the one command that needs no tower.
const makes = "map"

// nothing is told where there is no tower, no run, or nothing saved.
const nothing = "none"

// deed does a command, and is what it tells. There is a tower, unless the command makes one.
type deed func(d *desk, c api.Command) string

// table has what each command does, by its word.
func table() map[string]deed {
	return map[string]deed{
		makes:   (*desk).newTower,
		"put":   (*desk).operate,
		"del":   (*desk).operate,
		"get":   (*desk).operate,
		"floor": (*desk).operate,
		"ceil":  (*desk).operate,
		"rank":  (*desk).operate,
		"range": (*desk).list,
		"stats": (*desk).stats,
		"path":  (*desk).path,
		"save":  (*desk).save,
		"load":  (*desk).load,
	}
}

func (d *desk) newTower(c api.Command) string {
	t, e := tower.New(api.Config{Eps: size(c.Nums[0]), Buf: size(c.Nums[1]), Keys: size(c.Nums[2])})
	if e != api.OK {
		return "error " + strconv.Itoa(int(e))
	}
	d.tower = t
	return "ok"
}

func (d *desk) operate(c api.Command) string {
	o, _ := script.Op(c)
	return script.Tell(o, ask.Do(d.tower, o))
}

// list does a range. The one that would be too much is cut short alone: a small one behind it may still be told.
func (d *desk) list(c api.Command) string {
	o, _ := script.Op(c)
	a := ask.Do(d.tower, o)
	n := len(a.List)
	if d.pairs+n > api.MaxTold {
		return strconv.Itoa(n) + " .."
	}
	d.pairs += n
	return script.Tell(o, a)
}

func (d *desk) stats(api.Command) string {
	s := d.tower.Stats()
	counts := []int{s.Live, s.Buffered, s.Builds, s.Written}
	return "stats " + digits(" ", append(counts, s.Sizes...)...)
}

func (d *desk) path(c api.Command) string {
	class, key := c.Nums[0], c.Nums[1]
	runs := d.tower.Runs()
	if class >= uint64(len(runs)) || runs[class] == nil {
		return nothing
	}
	var line strings.Builder
	line.WriteString("path")
	for _, v := range probe.Path(runs[class], key) {
		line.WriteString(" " + digits(":", v.Level, v.Slot, v.Guess, v.Lo, v.Hi, v.Rank))
	}
	return line.String()
}

func (d *desk) save(api.Command) string {
	d.saved = store.Save(d.tower)
	return "saved " + strconv.Itoa(len(d.saved))
}

// load is never refused: what is saved are a tower's bytes.
func (d *desk) load(api.Command) string {
	if len(d.saved) == 0 {
		return nothing
	}
	d.tower, _ = store.Load(d.saved)
	return "loaded"
}

// size is a number of a config. All numbers above MaxRun are refused alike, but not all of them are ints: so the least of them stands for all.
func size(n uint64) int { return int(min(n, api.MaxRun+1)) }

// digits are numbers in digits, with something between each two.
func digits(between string, l ...int) string {
	var words []string
	for _, n := range l {
		words = append(words, strconv.Itoa(n))
	}
	return strings.Join(words, between)
}
