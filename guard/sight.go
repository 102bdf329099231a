package guard

import (
	"slices"
	"sync"

	"causeway/api"
	"causeway/contract"
	"causeway/ladder"
	"causeway/node"
	"causeway/witness"
)

// sight is a contract as it is seen by who has a node.
type sight struct {
	contract *contract.Contract
	both     int // so many first entries of the inbox are the node's, too

	asking sync.Mutex // whoever asks the node holds it: workers ask side by side
	node   *node.Node
}

func see(n *node.Node, c *contract.Contract) *sight {
	return &sight{contract: c, both: n.Fork(c.Inbox()), node: n}
}

// commit is our commit behind so many entries.
func (s *sight) commit(count int) (api.Commit, api.Errno) {
	s.asking.Lock()
	defer s.asking.Unlock()
	return s.node.Commit(count)
}

// said is that commit as an assertion has it.
func (s *sight) said(count int) ([]byte, api.Errno) {
	ours, e := s.commit(count)
	if e != api.OK {
		return nil, e
	}
	return ladder.Bytes(ours)
}

// shown are the bytes of the node's witness of the entries from a number on, up to and without another one. Of more than MaxReplay entries the node has none, and one may have more bytes than may be.
func (s *sight) shown(from, to int) ([]byte, api.Errno) {
	s.asking.Lock()
	defer s.asking.Unlock()
	w, e := s.node.Witness(from, to)
	if e != api.OK {
		return nil, e
	}
	return witness.Bytes(w)
}

func (s *sight) isKnown(c api.Commit) bool {
	return c.Count <= s.both
}

func (s *sight) isRight(c api.Commit) bool {
	if !s.isKnown(c) {
		return false
	}
	ours, e := s.commit(c.Count)
	return e == api.OK && ours == c
}

func (s *sight) isWrong(c api.Commit) bool {
	return s.isKnown(c) && !s.isRight(c)
}

// hasWrong tells whether the contract believes something wrong, or may come to believe it.
func (s *sight) hasWrong() bool {
	return s.isWrong(s.contract.Confirmed()) ||
		slices.ContainsFunc(s.contract.Pending(), func(p api.Pending) bool { return s.isWrong(p.Commit) })
}
