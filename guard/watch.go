package guard

import (
	"slices"

	"causeway/api"
)

// stroke is one operation, or none: against the first pending assertion that is not right.
func (a actor) stroke(workers int) []api.Op {
	pending, before := a.contract.Pending(), a.contract.Confirmed()
	verdicts := a.judgeAll(pending, workers)
	i := slices.IndexFunc(verdicts, func(v api.Verdict) bool { return !v.Right })
	if i < 0 || !verdicts[i].Known || !a.isRight(before) {
		return nil
	}
	if i > 0 {
		before = pending[i-1].Commit
	}
	p := pending[i]
	if d, is := a.mine(p.Number); is {
		return a.move(d)
	}
	return a.strike(before, p)
}

// mine is the duel over an assertion that is mine, if there is one.
func (a actor) mine(number int) (api.Duel, bool) {
	i := slices.IndexFunc(a.duels, func(d api.Duel) bool { return d.Number == number && d.Challenger == a.me })
	if i < 0 {
		return api.Duel{}, false
	}
	return a.duels[i], true
}

// move is the stroke where there is a duel of mine.
func (a actor) move(d api.Duel) []api.Op {
	switch {
	case a.isOver(d):
		return []api.Op{a.end(d)}
	case d.State == api.DuelPick:
		return []api.Op{a.pick(d)}
	case d.State == api.DuelProve:
		return a.prove(d)
	}
	return nil
}

// pick goes on with the half in which what is said comes to be wrong.
func (a actor) pick(d api.Duel) api.Op {
	o := a.op(api.OpPick, d.Number)
	if a.isRight(d.Middle) {
		o.Index = 1
	}
	return o
}

func (a actor) prove(d api.Duel) []api.Op {
	entry := d.Low.Count
	if entry >= a.both { // the node may have one of that number, which is not the inbox's
		return nil
	}
	body, e := a.shown(entry, entry+1)
	if e != api.OK {
		return nil
	}
	o := a.op(api.OpProve, d.Number)
	o.Body = body
	return []api.Op{o}
}

// strike is the stroke where there is no duel of mine: what is wrong is shown at one stroke if that can be, else a duel is opened, which nobody can with themselves.
func (a actor) strike(before api.Commit, p api.Pending) []api.Op {
	if a.now >= p.Deadline {
		return nil
	}
	if body, e := a.shown(before.Count, p.Commit.Count); e == api.OK {
		o := a.op(api.OpChallenge, p.Number)
		o.Body = body
		return []api.Op{o}
	}
	if p.Poster == a.me {
		return nil
	}
	return []api.Op{a.op(api.OpDuel, p.Number)}
}

// withEnds are the stroke and, behind it, the ends of all duels of which the turn is over, as many as a block takes.
func (a actor) withEnds(stroke []api.Op) []api.Op {
	ops := stroke
	for _, d := range a.duels {
		if len(ops) == api.MaxOps {
			break
		}
		if a.isOver(d) && !hasEnd(stroke, d) {
			ops = append(ops, a.end(d))
		}
	}
	return ops
}

// hasEnd tells whether some operations end a duel.
func hasEnd(ops []api.Op, d api.Duel) bool {
	return slices.ContainsFunc(ops, func(o api.Op) bool {
		return o.Kind == api.OpExpire && o.Number == d.Number && o.To == d.Challenger
	})
}
