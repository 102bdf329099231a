package world

import (
	"causeway/api"
	"causeway/courier"
	"causeway/guard"
	"causeway/wide"
)

// ofDigest is how many bytes are told of one.
const ofDigest = 8

func (p *play) follow(l line) {
	back, e := p.node.Follow(p.shore().Inbox(), l.said.number)
	p.answer(l, e, "ok", number(back), number(p.node.Count()))
}

func (p *play) cut(l line) {
	e := p.chain.Cut(l.said.number)
	p.answer(l, e, "ok", number(p.chain.Height()))
}

func (p *play) assert(l line) {
	body, e := guard.Assert(p.node, p.shore())
	p.guarded(l, e, api.Op{Kind: api.OpPost, By: l.said.by, Body: body})
}

func (p *play) watch(l line) {
	ops, e := guard.Watch(p.node, p.shore(), l.said.by, p.time, l.said.number)
	p.guarded(l, e, ops...)
}

func (p *play) defend(l line) {
	ops, e := guard.Defend(p.node, p.shore(), l.said.by, p.time)
	p.guarded(l, e, ops...)
}

// guarded does what the guard answers, as much as a block takes. Of none no block is made.
func (p *play) guarded(l line, e api.Errno, ops ...api.Op) {
	ops = ops[:min(len(ops), api.MaxOps)]
	var results []api.Result
	if e == api.OK && len(ops) > 0 {
		results, e = p.extend(ops)
	}
	p.answer(l, e, "ok", number(len(ops)))
	for i, r := range results {
		p.tellResult(under, deeper, guardWords[ops[i].Kind], r)
	}
}

func (p *play) look(l line) {
	stage, e := courier.Stage(p.node, p.shore(), l.said.number)
	p.answer(l, e, leafWords[stage])
}

func (p *play) held(l line) {
	p.answer(l, api.OK, wide.Text(p.shore().Held(l.said.token)))
}

func (p *play) supply(l line) {
	t, _ := p.node.Token(l.said.token) // a zero one, if it is refused
	p.answer(l, api.OK, wide.Text(t.Supply))
}

func (p *play) balance(l line) {
	has, e := p.node.Balance(l.said.token, l.said.by)
	p.answer(l, e, wide.Text(has))
}

func (p *play) ticket(l line) {
	t, e := p.node.Ticket(l.said.number)
	p.answer(l, e, number(t.Token), wide.Text(t.Amount), who(t.Sender), who(t.To), number(t.Entry))
}

func (p *play) receipt(l line) {
	r, e := p.node.Receipt(l.said.number)
	p.answer(l, e, number(int(r.Code)), number(r.Part), number(r.Number), wide.Text(r.Value), number(r.Gas), number(r.First), number(r.Leaves))
}

func (p *play) count(l line) {
	p.answer(l, api.OK, number(p.node.Count()))
}

func (p *play) top(l line) {
	p.answerCommit(l, p.shore().Top())
}

func (p *play) confirmed(l line) {
	p.answerCommit(l, p.shore().Confirmed())
}

func (p *play) answerCommit(l line, c api.Commit) {
	p.answer(l, api.OK, number(c.Count), number(c.Leaves), start(c.State, ofDigest), start(c.Outbox, ofDigest))
}

func (p *play) pending(l line) {
	list := p.shore().Pending()
	p.answer(l, api.OK, number(len(list)))
	for _, a := range list {
		p.tell(under, number(a.Number), number(a.Commit.Count), who(a.Poster), number(a.Posted), number(a.Deadline), number(a.Duels))
	}
}

func (p *play) duels(l line) {
	list := p.shore().Duels()
	p.answer(l, api.OK, number(len(list)))
	for _, d := range list {
		p.tell(under, number(d.Number), who(d.Challenger), who(d.Defender), duelWords[d.State], number(d.Low.Count), number(d.High.Count), number(d.Until), number(d.Rounds))
	}
}
