package store

import (
	"bytes"
	"maps"
	"slices"
	"strings"

	"causeway/api"
)

// State is steps over a source.
type State struct {
	source Source
	cells  map[string]*cell // of each key of which the source has told what it has
	steps  []step           // those that can be taken back
	marks  []int            // how many steps there were at each mark
}

// cell is what the source has at a key, and the value now. Their bytes are the state's own, and are never changed where they stand.
type cell struct {
	has, now []byte
}

// step is a value that was laid, by what stood there ahead of it.
type step struct {
	at    *cell
	ahead []byte
}

// Over begins them.
func Over(src Source) (*State, api.Errno) {
	if src == nil {
		return nil, api.ErrArg
	}
	return &State{source: src, cells: map[string]*cell{}}, api.OK
}

// Get tells the value at a key now.
func (s *State) Get(key string) ([]byte, api.Errno) {
	if s == nil {
		return nil, api.ErrArg
	}
	if !isKey(key) {
		return nil, api.ErrStoreKey
	}
	c, e := s.ask(key)
	if e != api.OK {
		return nil, e
	}
	return bytes.Clone(c.now), api.OK
}

// Put lays a value at a key; an empty one takes it away.
func (s *State) Put(key string, value []byte) api.Errno {
	if s == nil {
		return api.ErrArg
	}
	if e := check(key, value); e != api.OK {
		return e
	}
	c, e := s.ask(key)
	if e != api.OK {
		return e
	}
	// Ahead of the first mark nothing can be taken back, so no such step is kept.
	if len(s.marks) > 0 {
		s.steps = append(s.steps, step{at: c, ahead: c.now})
	}
	c.now = bytes.Clone(value)
	return api.OK
}

// Mark marks this place of the steps.
func (s *State) Mark() int {
	if s == nil {
		return 0
	}
	s.marks = append(s.marks, len(s.steps))
	return len(s.marks) - 1
}

// Back takes all steps back behind a mark.
func (s *State) Back(mark int) api.Errno {
	if s == nil {
		return api.ErrArg
	}
	if mark < 0 || mark >= len(s.marks) {
		return api.ErrStoreMark
	}
	left := s.marks[mark]
	for _, last := range slices.Backward(s.steps[left:]) {
		last.at.now = last.ahead
	}
	s.steps = slices.Delete(s.steps, left, len(s.steps))
	s.marks = s.marks[:mark+1]
	return api.OK
}

// Changes are those against the source, by rising keys.
func (s *State) Changes() []api.Change {
	var changes []api.Change
	for _, key := range s.Touched() {
		if c := s.cells[key]; !bytes.Equal(c.has, c.now) {
			changes = append(changes, api.Change{Key: key, Old: bytes.Clone(c.has), New: bytes.Clone(c.now)})
		}
	}
	return changes
}

// Touched are the keys that were asked or laid, rising.
func (s *State) Touched() []string {
	if s == nil {
		return nil
	}
	return slices.Sorted(maps.Keys(s.cells))
}

// ask is the cell of a key; the source is asked, if it has not told yet.
func (s *State) ask(key string) (*cell, api.Errno) {
	if c := s.cells[key]; c != nil {
		return c, api.OK
	}
	told, e := s.source.Find(key)
	switch {
	case e != api.OK:
		return nil, e
	case len(told) > api.MaxValue:
		return nil, api.ErrStoreValue
	}
	// A source that asks the state while it is asked itself has told already: what was kept first stays.
	if c := s.cells[key]; c != nil {
		return c, api.OK
	}
	own := bytes.Clone(told)
	c := &cell{has: own, now: own}
	s.cells[strings.Clone(key)] = c
	return c, api.OK
}
