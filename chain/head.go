package chain

import (
	"causeway/api"
	"causeway/contract"
)

// head is how a chain stands behind its last block: the contract, how many blocks there are, and the time of the last one. Without a block both numbers are nought, and no time is below that.
type head struct {
	*contract.Contract
	height int
	time   int
}

// refuses tells what is to be said against a block behind this head.
func (h head) refuses(b api.Block) api.Errno {
	switch {
	case len(b.Ops) > api.MaxOps:
		return api.ErrChainBlock
	case b.Time < h.time || b.Time > api.MaxTime:
		return api.ErrChainTime
	case h.height >= api.MaxCount:
		return api.ErrChainFull
	}
	return api.OK
}

// twin is the same head with a contract of its own. It is the twin that is laid aside, and the head that goes on: an inbox has room for the next entry, which that of a copy has not.
func (h head) twin() head {
	h.Contract = h.Copy()
	return h
}

// add does the operations of a block, behind which the head stands from now on: what came of them.
func (h *head) add(b api.Block) []api.Result {
	h.height++
	h.time = b.Time
	results := make([]api.Result, 0, len(b.Ops))
	for _, o := range b.Ops {
		results = append(results, h.Do(b.Time, o))
	}
	return results
}

// heads are a stack of those that can be come back to, each of which stands one block ahead of the next one.
type heads []head

// push lays a head on top. The lowest one falls off where there would be more than can be lost.
func (s *heads) push(h head) {
	list := append(*s, h)
	if over := len(list) - api.MaxReorg; over > 0 {
		copy(list, list[over:])
		list = shortened(list, api.MaxReorg)
	}
	*s = list
}

// pop takes the top one off.
func (s *heads) pop() head {
	last := len(*s) - 1
	top := (*s)[last]
	*s = shortened(*s, last)
	return top
}

// shortened is a list without what stands behind its first so many. That is cleared, so that no contract and no block is kept that nobody can ask for any more.
func shortened[T any](list []T, n int) []T {
	clear(list[n:])
	return list[:n]
}
