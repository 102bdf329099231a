package duel

import (
	"causeway/api"
	"causeway/witness"
)

// Split is the defender's: what is committed in the middle.
func (d *Duel) Split(by api.Address, middle api.Commit, now int) api.Errno {
	if e := d.refuses(api.DuelSplit, by, now); e != api.OK {
		return e
	}
	if middle.Count != d.stands.Low.Count+d.span()/2 {
		return api.ErrDuelSplit
	}
	d.stands.Middle = middle
	d.await(api.DuelPick, (*Duel).lose, now)
	return api.OK
}

// Pick is the challenger's: which half is wrong.
func (d *Duel) Pick(by api.Address, upper bool, now int) api.Errno {
	if e := d.refuses(api.DuelPick, by, now); e != api.OK {
		return e
	}
	if upper {
		d.stands.Low = d.stands.Middle
	} else {
		d.stands.High = d.stands.Middle
	}
	d.stands.Middle = api.Commit{}
	d.stands.Rounds++
	if d.span() == 1 {
		d.await(api.DuelProve, (*Duel).lose, now)
	} else {
		d.await(api.DuelSplit, (*Duel).win, now)
	}
	return api.OK
}

// Prove is the challenger's: a witness over the entry that is left.
func (d *Duel) Prove(by api.Address, w api.Witness, now int, entries ...api.Entry) api.Errno {
	if e := d.refuses(api.DuelProve, by, now); e != api.OK {
		return e
	}
	if len(entries) != 1 {
		return api.ErrArg
	}
	behind, e := witness.Replay(d.stands.Low, w, entries...)
	switch {
	case e != api.OK:
		return e
	case behind == d.stands.High:
		return api.ErrDuelHolds
	}
	d.last = now
	d.win()
	return api.OK
}

// Expire ends it when a turn is over.
func (d *Duel) Expire(now int) api.Errno {
	switch {
	case d == nil:
		return api.ErrArg
	case !d.goesOn(now):
		return api.ErrDuelTime
	case d.lapse == nil:
		return api.ErrDuelTurn
	case now <= d.stands.Until:
		return api.ErrDuelEarly
	}
	d.last = now
	d.lapse(d)
	return api.OK
}

// refuses tells what is to be said against a move in a state, whatever the move says itself.
func (d *Duel) refuses(state int, by api.Address, now int) api.Errno {
	switch {
	case d == nil:
		return api.ErrArg
	case !d.goesOn(now):
		return api.ErrDuelTime
	case d.stands.State != state:
		return api.ErrDuelTurn
	case by != d.mover():
		return api.ErrDuelWho
	case now > d.stands.Until:
		return api.ErrDuelLate
	}
	return api.OK
}

// goesOn tells whether a time may be that of the next move.
func (d *Duel) goesOn(now int) bool {
	return isTime(now) && now >= d.last
}

// mover is who is waited for, while the duel has not ended.
func (d *Duel) mover() api.Address {
	if d.stands.State == api.DuelSplit {
		return d.stands.Defender
	}
	return d.stands.Challenger
}

func (d *Duel) span() int {
	return d.stands.High.Count - d.stands.Low.Count
}

// await begins a turn. (now is at most 2^62 and the turn at most 2^40, so that the sum does not wrap.)
func (d *Duel) await(state int, lapse ending, now int) {
	d.last = now
	d.lapse = lapse
	d.stands.State = state
	d.stands.Until = min(now+d.turn, api.MaxTime)
}

// win ends the duel as the challenger's.
func (d *Duel) win() { d.end(api.DuelWon) }

// lose ends it as the defender's.
func (d *Duel) lose() { d.end(api.DuelLost) }

// end leaves nobody to be waited for, in the one state or the other; what may be the Middle of an open turn goes with it.
func (d *Duel) end(state int) {
	d.lapse = nil
	d.stands.State = state
	d.stands.Middle = api.Commit{}
	d.stands.Until = 0
}
