package inbox

import "causeway/api"

// Box has entries.
type Box struct {
	rows []row // what stands there never changes, so that copies can share it
}

// New is an empty one.
func New() *Box {
	return &Box{}
}

// Copy is a box of its own.
func (b *Box) Copy() *Box {
	if b == nil {
		return nil
	}
	n := len(b.rows)
	return &Box{rows: b.rows[:n:n]} // without room, which is the first one's alone: who adds to the copy writes elsewhere
}

// Add adds an entry: its number, from 0 on.
func (b *Box) Add(e api.Entry) (int, api.Errno) {
	if b == nil {
		return 0, api.ErrArg
	}
	number := len(b.rows)
	next, fault := b.last(number).numbered(number, e)
	if fault != api.OK {
		return 0, fault
	}
	b.rows = append(b.rows, next)
	return number, api.OK
}

// Len tells how many there are.
func (b *Box) Len() int {
	if b == nil {
		return 0
	}
	return len(b.rows)
}

// Link is the link behind the first so many.
func (b *Box) Link(count int) (api.Digest, api.Errno) {
	switch {
	case b == nil:
		return api.Digest{}, api.ErrArg
	case count < 0 || count > len(b.rows):
		return api.Digest{}, api.ErrInboxIndex
	}
	return b.last(count).link, api.OK
}

// Entry tells one.
func (b *Box) Entry(number int) (api.Entry, api.Errno) {
	switch {
	case b == nil:
		return api.Entry{}, api.ErrArg
	case number < 0 || number >= len(b.rows):
		return api.Entry{}, api.ErrInboxIndex
	}
	return copied(b.rows[number].entry), api.OK
}

// Entries tells those from a number on, up to and without another one.
func (b *Box) Entries(from, to int) ([]api.Entry, api.Errno) {
	switch {
	case b == nil:
		return nil, api.ErrArg
	case from < 0 || from > to || to > len(b.rows):
		return nil, api.ErrInboxIndex
	}
	list := make([]api.Entry, 0, to-from)
	for _, r := range b.rows[from:to] {
		list = append(list, copied(r.entry))
	}
	return list, api.OK
}

// Fork tells how many first entries two have in common.
func (b *Box) Fork(other *Box) int {
	n := min(b.Len(), other.Len())
	for i := range n {
		if !alike(b.rows[i].entry, other.rows[i].entry) {
			return i
		}
	}
	return n
}

// last is the row of the last one among the first so many.
func (b *Box) last(count int) row {
	if count == 0 {
		return row{}
	}
	return b.rows[count-1]
}
