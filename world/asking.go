package world

import (
	"causeway/api"
	"causeway/courier"
	"causeway/ladder"
	"causeway/witness"
)

// asking makes the operation that a line asks for, by the node and the contract as they are; or tells why there is none.
type asking func(*play, said) (api.Op, api.Errno)

// plain asks for an operation of a kind that has just what the line says.
func plain(kind int) asking {
	return func(_ *play, s said) (api.Op, api.Errno) {
		return s.op(kind), api.OK
	}
}

// stopping asks that deposits of a token are stopped (1), or not any more (0).
func stopping(index int) asking {
	return func(_ *play, s said) (api.Op, api.Errno) {
		s.index = index
		return s.op(api.OpStop), api.OK
	}
}

func (p *play) send(s said) (api.Op, api.Errno) {
	o := s.op(api.OpSend)
	o.Body = letterBytes(s.letter)
	return o, api.OK
}

// post hands on the node's commit behind as many entries as are said.
func (p *play) post(s said) (api.Op, api.Errno) {
	o := api.Op{Kind: api.OpPost, By: s.by}
	return p.committed(o, s.number, s.turned)
}

func (p *play) challenge(s said) (api.Op, api.Errno) {
	c := p.shore()
	before := c.Confirmed()
	for _, a := range c.Pending() {
		if a.Number == s.number {
			return p.shown(s.op(api.OpChallenge), before.Count, a.Commit.Count)
		}
		before = a.Commit
	}
	return api.Op{}, api.ErrLadderNone
}

func (p *play) split(s said) (api.Op, api.Errno) {
	d, e := p.duel(s.number, s.to)
	if e != api.OK {
		return api.Op{}, e
	}
	return p.committed(s.op(api.OpSplit), middle(d), s.turned)
}

func (p *play) prove(s said) (api.Op, api.Errno) {
	d, e := p.duel(s.number, s.by)
	if e != api.OK {
		return api.Op{}, e
	}
	return p.shown(s.op(api.OpProve), d.Low.Count, d.High.Count)
}

func (p *play) claim(s said) (api.Op, api.Errno) {
	return courier.Claim(p.node, p.shore(), s.by, s.number)
}

// committed is an operation with the node's commit behind a count; where it is turned, it is another one.
func (p *play) committed(o api.Op, count, turned int) (api.Op, api.Errno) {
	c, e := p.node.Commit(count)
	if e != api.OK {
		return api.Op{}, e
	}
	c.State[0] ^= byte(turned)
	o.Body, e = ladder.Bytes(c)
	return o, e
}

// shown is an operation with the node's witness of entries, from one on up to and without another one.
func (p *play) shown(o api.Op, from, to int) (api.Op, api.Errno) {
	w, e := p.node.Witness(from, to)
	if e != api.OK {
		return api.Op{}, e
	}
	o.Body, e = witness.Bytes(w)
	return o, e
}

// duel is the open one over an assertion, of a challenger.
func (p *play) duel(number int, challenger api.Address) (api.Duel, api.Errno) {
	for _, d := range p.shore().Duels() {
		if d.Number == number && d.Challenger == challenger {
			return d, api.OK
		}
	}
	return api.Duel{}, api.ErrContractDuel
}

// middle is the count at which a duel is split.
func middle(d api.Duel) int {
	return d.Low.Count + (d.High.Count-d.Low.Count)/2
}
