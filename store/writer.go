package store

import (
	"incline/api"
	"incline/codec"
	"incline/octets"
	"incline/run"
)

// writer lays things down, one behind the other. It has each of them made by itself: octets' calls copy all that they lay something behind.
type writer struct {
	bytes []byte
}

func (w *writer) number(n uint64) { w.bytes = append(w.bytes, octets.Put(nil, n)...) }

func (w *writer) count(n int) { w.number(uint64(n)) }

func (w *writer) config(c api.Config) {
	w.count(c.Eps)
	w.count(c.Buf)
	w.count(c.Keys)
}

func (w *writer) entries(l []api.Entry) {
	w.count(len(l))
	for _, e := range l {
		w.entry(e)
	}
}

func (w *writer) entry(e api.Entry) {
	w.number(e.Key)
	if e.Gone {
		w.bytes = append(w.bytes, gone)
		return
	}
	w.bytes = append(w.bytes, valued)
	w.number(e.Value)
}

// runs lays runs down, class by class, each behind the number of its bytes. No run's bytes are none: so a 0 tells a class without a run.
func (w *writer) runs(l []*run.Run) {
	w.count(len(l))
	for _, r := range l {
		var b []byte
		if r != nil {
			b = codec.Put(r)
		}
		w.count(len(b))
		w.bytes = append(w.bytes, b...)
	}
}
