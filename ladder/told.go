package ladder

import (
	"slices"

	"causeway/api"
)

// Find tells a pending one.
func (l *Ladder) Find(number int) (api.Pending, api.Errno) {
	i, e := l.place(number)
	if e != api.OK {
		return api.Pending{}, e
	}
	return l.pending[i], api.OK
}

// Before is the commit that a pending one goes on from.
func (l *Ladder) Before(number int) (api.Commit, api.Errno) {
	i, e := l.place(number)
	if e != api.OK {
		return api.Commit{}, e
	}
	return l.behind(i), api.OK
}

// Pending are all pending ones, in order.
func (l *Ladder) Pending() []api.Pending {
	if l == nil {
		return nil
	}
	return copied(l.pending)
}

// Confirmed is the commit that was confirmed last.
func (l *Ladder) Confirmed() api.Commit {
	if l == nil {
		return api.Commit{}
	}
	return l.confirmed
}

// Top is the commit that the next one goes on from.
func (l *Ladder) Top() api.Commit {
	if l == nil {
		return api.Commit{}
	}
	return l.behind(len(l.pending))
}

// behind is the commit behind the first so many pending ones.
func (l *Ladder) behind(count int) api.Commit {
	if count == 0 {
		return l.confirmed
	}
	return l.pending[count-1].Commit
}

// place tells where a pending one stands. (Numbers have gaps, where some were dropped.)
func (l *Ladder) place(number int) (int, api.Errno) {
	if l == nil {
		return 0, api.ErrArg
	}
	i := slices.IndexFunc(l.pending, func(p api.Pending) bool { return p.Number == number })
	if i < 0 {
		return 0, api.ErrLadderNone
	}
	return i, api.OK
}

// copied is the same list in memory of its own.
func copied(list []api.Pending) []api.Pending {
	return append([]api.Pending(nil), list...)
}
