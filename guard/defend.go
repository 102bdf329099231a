package guard

import "causeway/api"

// defences are the moves in all duels that I defend, as many as a block takes.
func (a actor) defences() []api.Op {
	var ops []api.Op
	for _, d := range a.duels {
		if len(ops) == api.MaxOps {
			break
		}
		if d.Defender == a.me {
			ops = append(ops, a.defend(d)...)
		}
	}
	return ops
}

// defend is one move, or none. A turn of my own that is over I do not end: by that the assertion would fall.
func (a actor) defend(d api.Duel) []api.Op {
	switch d.State {
	case api.DuelSplit:
		if !a.isOver(d) {
			return a.split(d)
		}
	case api.DuelPick, api.DuelProve:
		if a.isOver(d) {
			return []api.Op{a.end(d)}
		}
	}
	return nil
}

func (a actor) split(d api.Duel) []api.Op {
	middle := d.Low.Count + (d.High.Count-d.Low.Count)/2
	if middle > a.both { // the node may have a commit of that count, but not behind the inbox's entries
		return nil
	}
	body, e := a.said(middle)
	if e != api.OK {
		return nil
	}
	o := a.op(api.OpSplit, d.Number)
	o.To, o.Body = d.Challenger, body
	return []api.Op{o}
}
