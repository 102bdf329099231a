package tree

import (
	"crypto/sha256"
	"slices"

	"causeway/api"
)

// The second reckoning: roots and paths level by level, from the leaves up, and Check and Grew by the bits of the numbers, in the place of the program's recursion; growths and frontiers by the document's words over spans. The digest is handed in, so that the promises about two texts of one digest can be tried with one that is weak.

type hash func(text []byte) api.Digest

var sha hash = func(text []byte) api.Digest { return sha256.Sum256(text) }

func (h hash) leaf(data []byte) api.Digest { return h(slices.Concat([]byte{0}, data)) }

func (h hash) node(left, right api.Digest) api.Digest {
	return h(slices.Concat([]byte{1}, left[:], right[:]))
}

// levels are the tree's digests, level by level; one without a neighbour goes up as it is.
func (h hash) levels(leaves [][]byte) [][]api.Digest {
	var level []api.Digest
	for _, l := range leaves {
		level = append(level, h.leaf(l))
	}
	all := [][]api.Digest{level}
	for len(level) > 1 {
		var next []api.Digest
		for i := 0; i < len(level); i += 2 {
			if i+1 == len(level) {
				next = append(next, level[i])
			} else {
				next = append(next, h.node(level[i], level[i+1]))
			}
		}
		level = next
		all = append(all, level)
	}
	return all
}

func (h hash) root(leaves [][]byte) api.Digest {
	if len(leaves) == 0 {
		return h(nil)
	}
	all := h.levels(leaves)
	return all[len(all)-1][0]
}

// path is the neighbours of what stands over a leaf, where it has one.
func (h hash) path(leaves [][]byte, index int) []api.Digest {
	var path []api.Digest
	for _, level := range h.levels(leaves) {
		if beside := index ^ 1; beside < len(level) {
			path = append(path, level[beside])
		}
		index >>= 1
	}
	return path
}

// greatest is the greatest power of two below n.
func greatest(n int) int {
	k := 1
	for 2*k < n {
		k *= 2
	}
	return k
}

func (h hash) growth(leaves [][]byte, old int) []api.Digest {
	if old == 0 || old == len(leaves) {
		return nil
	}
	from, to, yes := 0, len(leaves), true
	var behind []api.Digest
	for old != to {
		k := from + greatest(to-from)
		if old <= k {
			behind = append(behind, h.root(leaves[k:to]))
			to = k
		} else {
			behind = append(behind, h.root(leaves[from:k]))
			from, yes = k, false
		}
	}
	if !yes {
		behind = append(behind, h.root(leaves[from:to]))
	}
	slices.Reverse(behind)
	return behind
}

func (h hash) front(leaves [][]byte) []api.Digest {
	var front []api.Digest
	for part := 1 << 40; part > 0; part /= 2 {
		if len(leaves) >= part {
			front = append(front, h.root(leaves[:part]))
			leaves = leaves[part:]
		}
	}
	return front
}

// climb goes from a leaf up by the bits of its number and of the last one's. It tells the root, and whether the path was of the right length.
func (h hash) climb(size, index int, leaf []byte, path []api.Digest) (api.Digest, bool) {
	at, last := index, size-1
	root := h.leaf(leaf)
	for _, d := range path {
		if last == 0 {
			return api.Digest{}, false
		}
		if at&1 == 1 || at == last {
			root = h.node(d, root)
			for at&1 == 0 && at != 0 {
				at, last = at>>1, last>>1
			}
		} else {
			root = h.node(root, d)
		}
		at, last = at>>1, last>>1
	}
	return root, last == 0
}

// grow goes up a growth by the bits of the old last leaf's number and of the new one's, for old above 0 and below size. It tells both roots, and whether the path was of the right length.
func (h hash) grow(was api.Digest, old, size int, path []api.Digest) (api.Digest, api.Digest, bool) {
	if old&(old-1) == 0 {
		path = slices.Concat([]api.Digest{was}, path)
	}
	if len(path) == 0 {
		return api.Digest{}, api.Digest{}, false
	}
	at, last := old-1, size-1
	for at&1 == 1 {
		at, last = at>>1, last>>1
	}
	before, after := path[0], path[0]
	for _, d := range path[1:] {
		if last == 0 {
			return api.Digest{}, api.Digest{}, false
		}
		if at&1 == 1 || at == last {
			before, after = h.node(d, before), h.node(d, after)
			for at&1 == 0 && at != 0 {
				at, last = at>>1, last>>1
			}
		} else {
			after = h.node(after, d)
		}
		at, last = at>>1, last>>1
	}
	return before, after, last == 0
}

// lengthOf is the one length of a path that is whole.
func lengthOf(whole func(path []api.Digest) bool) int {
	for n := range 200 {
		if whole(make([]api.Digest, n)) {
			return n
		}
	}
	return -1
}

func pathLength(size, index int) int {
	return lengthOf(func(path []api.Digest) bool {
		_, whole := sha.climb(size, index, nil, path)
		return whole
	})
}

// growthLength is for old above 0.
func growthLength(old, size int) int {
	if old == size {
		return 0
	}
	return lengthOf(func(path []api.Digest) bool {
		_, _, whole := sha.grow(api.Digest{}, old, size, path)
		return whole
	})
}

// check is what Check must tell.
func (h hash) check(root api.Digest, size, index int, leaf []byte, path []api.Digest) api.Errno {
	switch {
	case size < 1, size > 1<<40:
		return 40
	case index < 0, index >= size:
		return 41
	}
	if made, whole := h.climb(size, index, leaf, path); !whole || made != root {
		return 43
	}
	return 0
}

// grew is what Grew must tell.
func (h hash) grew(was api.Digest, old int, root api.Digest, size int, path []api.Digest) api.Errno {
	if size < 0 || size > 1<<40 || old < 0 || old > size {
		return 40
	}
	good := len(path) == 0
	switch {
	case old == 0 && size == 0:
		good = good && was == h(nil) && root == h(nil)
	case old == 0:
		good = good && was == h(nil)
	case old == size:
		good = good && was == root
	default:
		before, after, whole := h.grow(was, old, size, path)
		good = whole && before == was && after == root
	}
	if good {
		return 0
	}
	return 43
}
