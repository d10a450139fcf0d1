package store

import (
	"math"

	"incline/api"
	"incline/codec"
	"incline/octets"
	"incline/run"
)

// The fewest bytes that a thing has of which a number is told ahead: by them a number that is too great is known at once.
const (
	entrySize = 9 // a tombstone: its key, and a byte
	classSize = 8 // a class without a run: a nought
	byteSize  = 1
)

// reader reads as octets' reader does, but gives up where that one answers an error.
type reader struct {
	*octets.Reader
}

func (r reader) word(w string) { need(r.Word(w) == api.OK) }

func (r reader) number() uint64 {
	n, err := r.Number()
	need(err == api.OK)
	return n
}

func (r reader) count(most int) int {
	n, err := r.Count(most)
	need(err == api.OK)
	return n
}

func (r reader) octet(most byte) byte {
	b, err := r.Byte(most)
	need(err == api.OK)
	return b
}

// items reads how many things come, most at most, each of at least size bytes. If these are not there it gives up, so that nobody makes room for what can't come.
func (r reader) items(most, size int) int {
	n := r.count(most)
	need(n <= r.Left()/size)
	return n
}

// config reads a config that tower.Of has yet to take: no number that is greater than read here may be in one.
func (r reader) config() api.Config {
	eps := r.count(api.MaxEps)
	buf := r.count(api.MaxRun)
	keys := r.count(api.MaxRun)
	return api.Config{Eps: eps, Buf: buf, Keys: keys}
}

func (r reader) entries() []api.Entry {
	l := make([]api.Entry, r.items(api.MaxRun, entrySize))
	for i := range l {
		l[i] = r.entry()
	}
	return l
}

func (r reader) entry() api.Entry {
	key := r.number()
	if r.octet(gone) == gone {
		return api.Entry{Key: key, Gone: true}
	}
	return api.Entry{Key: key, Value: r.number()}
}

// runs reads the runs, class by class. The last class that is told has one: else a tower could be written in several ways.
func (r reader) runs() []*run.Run {
	l := make([]*run.Run, r.items(api.MaxClass, classSize))
	for class := range l {
		l[class] = r.run()
	}
	need(len(l) == 0 || l[len(l)-1] != nil)
	return l
}

// run reads the run of a class, or nil, if there is none.
func (r reader) run() *run.Run {
	b := r.bytes()
	if len(b) == 0 {
		return nil
	}
	one, err := codec.Get(b)
	need(err == api.OK)
	return one
}

// bytes reads how many bytes come, and these.
func (r reader) bytes() []byte {
	l := make([]byte, r.items(math.MaxInt, byteSize))
	for i := range l {
		l[i] = r.octet(math.MaxUint8)
	}
	return l
}
