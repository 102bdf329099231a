package courier

import (
	"slices"

	"causeway/api"
	"causeway/contract"
	"causeway/node"
	"causeway/outbox"
)

// way is what lies between a node's leaves and a contract's payments.
type way struct {
	node      *node.Node
	contract  *contract.Contract
	confirmed api.Commit

	asked bool // whether a leaf's path was looked at
	led   bool // and whether it led to the confirmed root
}

func between(n *node.Node, c *contract.Contract) *way {
	return &way{node: n, contract: c, confirmed: c.Confirmed()}
}

func (w *way) isUnpaid(index int) bool {
	return !w.contract.Paid(index)
}

func (w *way) isThere(index int) bool {
	_, e := w.node.Leaf(index)
	return e == api.OK
}

func (w *way) isConfirmed(index int) bool {
	return w.confirmed.Leaves > index
}

func (w *way) isAsserted(index int) bool {
	return slices.ContainsFunc(w.contract.Pending(), func(p api.Pending) bool { return p.Commit.Leaves > index })
}

// leads tells whether the node's path of a leaf leads to the confirmed root. The paths of all leaves among the same ones come to the same root, so the first that is looked at answers for the others: to make one all these leaves are hashed.
func (w *way) leads(index int) bool {
	if !w.asked {
		_, _, e := w.show(index)
		w.asked, w.led = true, e == api.OK
	}
	return w.led
}

// show is a leaf, and the node's path of it among the confirmed commit's leaves, if that leads to the confirmed root. A node that has fewer leaves tells no path among so many.
func (w *way) show(index int) (api.Leaf, []api.Digest, api.Errno) {
	size := w.confirmed.Leaves
	leaf, e := w.node.Leaf(index)
	if e != api.OK {
		return api.Leaf{}, nil, e
	}
	path, e := w.node.Path(index, size)
	if e != api.OK {
		return api.Leaf{}, nil, e
	}
	if e := outbox.Check(w.confirmed.Outbox, size, leaf, path); e != api.OK {
		return api.Leaf{}, nil, e
	}
	return leaf, path, api.OK
}

// claim is the operation that claims a leaf that has passed all gates.
func (w *way) claim(by api.Address, index int) (api.Op, api.Errno) {
	leaf, path, e := w.show(index)
	if e != api.OK {
		return api.Op{}, e
	}
	body, e := outbox.Bytes(leaf)
	if e != api.OK {
		return api.Op{}, e
	}
	return api.Op{Kind: api.OpClaim, By: by, Body: body, Path: path}, api.OK
}
