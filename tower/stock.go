package tower

import (
	"incline/api"
	"incline/buffer"
	"incline/classes"
)

// stock has all entries: the buffer's, and those of the classes, which are older. What only one of the two can be asked is promoted; what both can is its own.
type stock struct {
	*buffer.Buffer
	*classes.Classes
}

// stocked has entries that keys.Check takes, fewer than most, over older ones. Of such the buffer refuses none.
func stocked(most int, l []api.Entry, older *classes.Classes) stock {
	b, _ := buffer.New(most)
	for _, e := range l {
		b.Put(e)
	}
	return stock{Buffer: b, Classes: older}
}

// Get is the newest entry of a key, be it a tombstone.
func (s stock) Get(key uint64) (api.Entry, bool) {
	if e, there := s.Buffer.Get(key); there {
		return e, true
	}
	return s.Classes.Get(key)
}

// lay puts an entry in, and hands a buffer that is full then on to the classes. Neither is refused: the buffer has room, as it is never left full, and what it has when it is full is what the classes take.
func (s stock) lay(e api.Entry) {
	s.Put(e)
	if s.Full() {
		s.Take(s.Empty())
	}
}

// Clone goes its own way.
func (s stock) Clone() stock { return stock{Buffer: s.Buffer.Clone(), Classes: s.Classes.Clone()} }
