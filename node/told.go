package node

import (
	"causeway/api"
	"causeway/ledger"
	"causeway/store"
	"causeway/ticket"
	"causeway/witness"
)

// Commit is what is committed behind the first so many.
func (n *Node) Commit(count int) (api.Commit, api.Errno) {
	switch {
	case n == nil:
		return api.Commit{}, api.ErrArg
	case count < 0 || count > n.Count():
		return api.Commit{}, api.ErrNodeCount
	}
	return n.steps[count].commit, api.OK
}

// Receipt tells what came of an entry.
func (n *Node) Receipt(number int) (api.Receipt, api.Errno) {
	switch {
	case n == nil:
		return api.Receipt{}, api.ErrArg
	case number < 0 || number >= n.Count():
		return api.Receipt{}, api.ErrNodeCount
	}
	return n.steps[number+1].receipt, api.OK
}

// Token tells what there is of a token.
func (n *Node) Token(token int) (api.Token, api.Errno) {
	s, e := n.over()
	if e != api.OK {
		return api.Token{}, e
	}
	return ledger.Token(s, token)
}

// Balance tells how much somebody has.
func (n *Node) Balance(token int, who api.Address) (api.Wide, api.Errno) {
	s, e := n.over()
	if e != api.OK {
		return api.Wide{}, e
	}
	return ledger.Balance(s, token, who)
}

// Ticket tells an open ticket.
func (n *Node) Ticket(number int) (api.Ticket, api.Errno) {
	s, e := n.over()
	if e != api.OK {
		return api.Ticket{}, e
	}
	return ticket.Find(s, number)
}

// Leaves tells how many leaves there are.
func (n *Node) Leaves() int {
	if n == nil || n.book == nil { // a node that New did not make has no leaves
		return 0
	}
	return n.book.Len()
}

// Leaf tells one.
func (n *Node) Leaf(index int) (api.Leaf, api.Errno) {
	switch {
	case n == nil:
		return api.Leaf{}, api.ErrArg
	case index < 0 || index >= n.Leaves():
		return api.Leaf{}, api.ErrNodeLeaf
	}
	return n.book.Leaf(index)
}

// Path shows a leaf among the first so many.
func (n *Node) Path(index, size int) ([]api.Digest, api.Errno) {
	switch {
	case n == nil:
		return nil, api.ErrArg
	case index < 0 || index >= size || size > n.Leaves():
		return nil, api.ErrNodeLeaf
	}
	return n.book.Path(index, size)
}

// Witness is that of the entries from a number on, up to and without another one.
func (n *Node) Witness(from, to int) (api.Witness, api.Errno) {
	switch {
	case n == nil:
		return api.Witness{}, api.ErrArg
	case from < 0 || from >= to || to > n.Count() || to-from > api.MaxReplay:
		return api.Witness{}, api.ErrNodeSpan
	}
	entries, e := n.box.Entries(from, to)
	if e != api.OK {
		return api.Witness{}, e
	}
	w, _, e := witness.Record(n.behind(from), entries...)
	return w, e
}

// over is a state over the store behind all entries, for questions alone.
func (n *Node) over() (*store.State, api.Errno) {
	if n == nil {
		return nil, api.ErrArg
	}
	return store.Over(n.table)
}

// behind is a table of its own: the store behind the first so many entries.
func (n *Node) behind(count int) *store.Table {
	t := n.table.Copy()
	undo(t, n.steps[count+1:])
	return t
}
