package guard

import (
	"causeway/api"
	"causeway/contract"
	"causeway/node"
)

// actor is somebody who looks at a contract at a time, and tells what they would have done.
type actor struct {
	*sight
	duels []api.Duel // the open ones, whoever is in them
	me    api.Address
	now   int
}

func newActor(n *node.Node, c *contract.Contract, me api.Address, now int) actor {
	return actor{sight: see(n, c), duels: c.Duels(), me: me, now: now}
}

// op is an operation with what all have that are told here.
func (a actor) op(kind, number int) api.Op {
	return api.Op{Kind: kind, By: a.me, Number: number}
}

// end is the operation that ends a duel of which the turn is over.
func (a actor) end(d api.Duel) api.Op {
	o := a.op(api.OpExpire, d.Number)
	o.To = d.Challenger
	return o
}

func (a actor) isOver(d api.Duel) bool {
	return a.now > d.Until
}
