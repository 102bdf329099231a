package tree

import (
	"math/bits"
	"slices"

	"causeway/api"
)

// Log is a tree of which the frontier alone is kept.
type Log struct {
	size  int
	front []api.Digest
}

// New is one without a leaf.
func New() *Log {
	return &Log{}
}

// Resume goes on from a frontier.
func Resume(size int, front []api.Digest) (*Log, api.Errno) {
	if size < 0 || size > api.MaxCount {
		return nil, api.ErrTreeSize
	}
	if len(front) != bits.OnesCount(uint(size)) {
		return nil, api.ErrTreeFront
	}
	return &Log{size: size, front: slices.Clone(front)}, api.OK
}

// Add adds a leaf: its number.
func (l *Log) Add(leaf []byte) int {
	if l == nil {
		return 0
	}
	if l.size >= api.MaxCount {
		return -1
	}
	part := Leaf(leaf)
	// As in adding one to the size: each bit of 1 at its end carries, and so two parts of as many leaves become one.
	for range bits.TrailingZeros(^uint(l.size)) {
		last := len(l.front) - 1
		part = Node(l.front[last], part)
		l.front = l.front[:last]
	}
	l.front = append(l.front, part)
	l.size++
	return l.size - 1
}

// Size tells how many there are.
func (l *Log) Size() int {
	if l == nil {
		return 0
	}
	return l.size
}

// Root is the digest over all.
func (l *Log) Root() api.Digest {
	if l == nil {
		return api.Digest{}
	}
	last := len(l.front) - 1
	if last < 0 {
		return Root(nil)
	}
	// The greatest part lies left of the top, all the others right of it: so the roots are put together from the last on.
	root := l.front[last]
	for i := range last {
		root = Node(l.front[last-1-i], root)
	}
	return root
}

// Front is the frontier.
func (l *Log) Front() []api.Digest {
	if l == nil {
		return nil
	}
	return slices.Clone(l.front)
}
