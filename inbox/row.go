package inbox

import (
	"bytes"

	"causeway/api"
)

// row is an entry, and the link behind it. Where there is no entry yet the row is zero: noughts are the link there, and no Time is below 0.
type row struct {
	entry api.Entry
	link  api.Digest
}

// next is the row of an entry that stands behind this one's.
func (r row) next(e api.Entry) (row, api.Errno) {
	link, fault := Next(r.link, e)
	switch {
	case fault != api.OK:
		return row{}, fault
	case e.Time < r.entry.Time:
		return row{}, api.ErrInboxTime
	}
	return row{entry: e, link: link}, api.OK
}

// numbered is the row that a box keeps of an entry that is to have that number: the next one, if there is such a number, with a Body of its own.
func (r row) numbered(number int, e api.Entry) (row, api.Errno) {
	next, fault := r.next(e)
	switch {
	case fault != api.OK:
		return row{}, fault
	case number >= api.MaxCount:
		return row{}, api.ErrInboxFull
	}
	next.entry = copied(e)
	return next, api.OK
}

// copied is the same entry with a Body of its own.
func copied(e api.Entry) api.Entry {
	e.Body = append([]byte(nil), e.Body...)
	return e
}

// alike tells whether two entries are the same in every field. (Their links could not tell it: two unlike texts may have one digest.)
func alike(a, b api.Entry) bool {
	return a.Kind == b.Kind &&
		a.Sender == b.Sender &&
		a.Time == b.Time &&
		a.Token == b.Token &&
		a.To == b.To &&
		a.Amount == b.Amount &&
		a.Gas == b.Gas &&
		bytes.Equal(a.Body, b.Body)
}
