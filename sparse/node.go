package sparse

import (
	"causeway/api"
	"causeway/digest"
)

// The first byte of a text keeps a key with its value and two halves apart: both are 64 bytes.
const (
	oneText  = 2
	manyText = 3
)

// hiddenCount is how many keys a part counts for of which the digest alone is known: any number above one does.
const hiddenCount = 2

// node is a part with a key at least; a part without a key is nil. Maps and their copies share nodes, so none is ever changed.
type node struct {
	over        api.Digest
	count       int
	one         api.Bound // if there is one key alone
	left, right *node     // if there are more, and they are not hidden
}

// single is a part of one key, or of none, if its value is noughts.
func single(b api.Bound) *node {
	if isNoughts(b.Value) {
		return nil
	}
	return &node{over: overOne(b), count: 1, one: b}
}

// join is a part by its halves. A key that is alone goes up as it is: the digest over it is the same at whatever depth.
func join(left, right *node) *node {
	count := left.size() + right.size()
	switch {
	case count > 1:
		return &node{over: overTwo(left.digest(), right.digest()), count: count, left: left, right: right}
	case left != nil:
		return left
	}
	return right
}

// hide is a part of more than one key by the digests over its halves.
func hide(left, right api.Digest) *node {
	return &node{over: overTwo(left, right), count: hiddenCount}
}

func (n *node) size() int {
	if n == nil {
		return 0
	}
	return n.count
}

func (n *node) digest() api.Digest {
	if n == nil {
		return api.Digest{}
	}
	return n.over
}

// find is the value at a key; noughts, if there is none.
func (n *node) find(key api.Digest) api.Digest {
	for bits := 0; n.size() > 1; bits++ {
		if bitAt(key, bits) {
			n = n.right
		} else {
			n = n.left
		}
	}
	if n == nil || n.one.Key != key {
		return api.Digest{}
	}
	return n.one.Value
}

// put is the part of so many bits with a value laid at a key that lies in it, but in nothing hidden.
func (n *node) put(b api.Bound, bits int) *node {
	if n == nil || n.count == 1 && n.one.Key == b.Key {
		return single(b)
	}
	left, right := n.halves(bits)
	if bitAt(b.Key, bits) {
		right = right.put(b, bits+1)
	} else {
		left = left.put(b, bits+1)
	}
	return join(left, right)
}

// halves are those of a part of so many bits, which must be below 256.
func (n *node) halves(bits int) (*node, *node) {
	switch {
	case n.count > 1:
		return n.left, n.right
	case bitAt(n.one.Key, bits):
		return nil, n
	}
	return n, nil
}

// each tells the keys by rising ones, and whether it was not told to stop.
func (n *node) each(yield func(api.Digest, api.Digest) bool) bool {
	switch n.size() {
	case 0:
		return true
	case 1:
		return yield(n.one.Key, n.one.Value)
	}
	return n.left.each(yield) && n.right.each(yield)
}

func overOne(b api.Bound) api.Digest {
	return digest.Parts([]byte{oneText}, b.Key[:], b.Value[:])
}

func overTwo(left, right api.Digest) api.Digest {
	return digest.Parts([]byte{manyText}, left[:], right[:])
}

func isNoughts(d api.Digest) bool {
	return d == api.Digest{}
}

// bitAt tells whether a key's bit is 1, the highest of its first byte being the bit 0.
func bitAt(key api.Digest, at int) bool {
	return key[at/8]<<(at%8)&0x80 != 0
}
