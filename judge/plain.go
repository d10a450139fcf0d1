package judge

import (
	"math"
	"slices"

	"incline/api"
)

// plain is the plain map. It keeps no order, so that it can have none wrong: whatever a question of order asks for is looked for among all keys.
type plain struct {
	values map[uint64]uint64 // of each key that is there
	most   int               // how many keys there may be
}

// do does an operation, and is what is right to answer.
func (p plain) do(o api.Op) api.Answer {
	switch o.Kind {
	case api.OpPut:
		return api.Answer{Code: p.put(o.Key, o.Value)}
	case api.OpDelete:
		return api.Answer{Is: p.drop(o.Key)}
	case api.OpGet:
		value, is := p.values[o.Key]
		return api.Answer{Is: is, Value: value}
	case api.OpFloor:
		return p.floor(o.Key)
	case api.OpCeil:
		return p.ceil(o.Key)
	case api.OpRank:
		return api.Answer{Num: p.rank(o.Key)}
	case api.OpRange:
		return api.Answer{List: p.between(o.Key, o.Value)}
	}
	return api.Answer{Code: api.ErrArg}
}

// put gives a key its value; one that is not there is refused where there are as many as may be.
func (p plain) put(key, value uint64) api.Errno {
	if _, is := p.values[key]; !is && len(p.values) >= p.most {
		return api.ErrFull
	}
	p.values[key] = value
	return api.OK
}

// drop takes a key away, and tells whether it was there.
func (p plain) drop(key uint64) bool {
	_, is := p.values[key]
	delete(p.values, key)
	return is
}

// floor tells of the greatest key that is not above q.
func (p plain) floor(q uint64) api.Answer {
	best, is := uint64(0), false
	for key := range p.values {
		if key <= q && key >= best {
			best, is = key, true
		}
	}
	return p.found(best, is)
}

// ceil tells of the least key that is not below q.
func (p plain) ceil(q uint64) api.Answer {
	best, is := uint64(math.MaxUint64), false
	for key := range p.values {
		if key >= q && key <= best {
			best, is = key, true
		}
	}
	return p.found(best, is)
}

// found tells of a key with its value, if there is one.
func (p plain) found(key uint64, is bool) api.Answer {
	if !is {
		return api.Answer{}
	}
	return api.Answer{Is: true, Key: key, Value: p.values[key]}
}

// rank is how many keys are below q.
func (p plain) rank(q uint64) int {
	n := 0
	for key := range p.values {
		if key < q {
			n++
		}
	}
	return n
}

// between are the keys from one to another one, both of these too, rising, with their values.
func (p plain) between(from, to uint64) []api.Pair {
	var keys []uint64
	for key := range p.values {
		if key >= from && key <= to {
			keys = append(keys, key)
		}
	}
	slices.Sort(keys)
	pairs := make([]api.Pair, len(keys))
	for i, key := range keys {
		pairs[i] = api.Pair{Key: key, Value: p.values[key]}
	}
	return pairs
}
