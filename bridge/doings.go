package bridge

import (
	"causeway/api"
	"causeway/courier"
	"causeway/guard"
)

// doing does an order of its kind. Beside an error it may answer anything, of which nothing is told.
type doing func(*Bridge, api.Order) (api.Answer, api.Errno)

// doings are what orders do, by their kinds. The map holds functions, so it is made anew for each order.
func doings() map[int]doing {
	return map[int]doing{
		api.OrderBlock:  (*Bridge).block,
		api.OrderCut:    (*Bridge).cut,
		api.OrderFollow: (*Bridge).follow,
		api.OrderAssert: (*Bridge).assert,
		api.OrderWatch:  (*Bridge).watch,
		api.OrderDefend: (*Bridge).defend,
		api.OrderClaim:  (*Bridge).claim,
		api.OrderLook:   (*Bridge).look,
	}
}

func (b *Bridge) block(o api.Order) (api.Answer, api.Errno) {
	results, e := b.chain.Extend(api.Block{Time: o.Time, Ops: o.Ops})
	return api.Answer{Results: results}, e
}

func (b *Bridge) cut(o api.Order) (api.Answer, api.Errno) {
	return api.Answer{}, b.chain.Cut(o.Count)
}

func (b *Bridge) follow(o api.Order) (api.Answer, api.Errno) {
	back, e := b.node.Follow(b.shore().Inbox(), o.Workers)
	return api.Answer{Back: back}, e
}

func (b *Bridge) assert(o api.Order) (api.Answer, api.Errno) {
	body, e := guard.Assert(b.node, b.shore())
	if e != api.OK {
		return api.Answer{}, e
	}
	return b.made(o.Time, api.Op{Kind: api.OpPost, By: o.By, Body: body})
}

func (b *Bridge) watch(o api.Order) (api.Answer, api.Errno) {
	ops, e := guard.Watch(b.node, b.shore(), o.By, o.Time, o.Workers)
	if e != api.OK {
		return api.Answer{}, e
	}
	return b.made(o.Time, ops...)
}

func (b *Bridge) defend(o api.Order) (api.Answer, api.Errno) {
	ops, e := guard.Defend(b.node, b.shore(), o.By, o.Time)
	if e != api.OK {
		return api.Answer{}, e
	}
	return b.made(o.Time, ops...)
}

func (b *Bridge) claim(o api.Order) (api.Answer, api.Errno) {
	op, e := courier.Claim(b.node, b.shore(), o.By, o.Index)
	if e != api.OK {
		return api.Answer{}, e
	}
	return b.made(o.Time, op)
}

func (b *Bridge) look(o api.Order) (api.Answer, api.Errno) {
	stage, e := courier.Stage(b.node, b.shore(), o.Index)
	return api.Answer{Stage: stage}, e
}

// made does operations that an order made, as many as a block takes. Of none no block is made.
func (b *Bridge) made(time int, ops ...api.Op) (api.Answer, api.Errno) {
	n := min(len(ops), api.MaxOps)
	if n == 0 {
		return api.Answer{}, api.OK
	}
	ops = ops[:n:n] // what is left out is not in the spare room of what is answered
	results, e := b.chain.Extend(api.Block{Time: time, Ops: ops})
	return api.Answer{Results: results, Ops: ops}, e
}
