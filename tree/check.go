package tree

import "causeway/api"

// Check tells whether a path shows a leaf.
func Check(root api.Digest, size, index int, leaf []byte, path []api.Digest) api.Errno {
	if size < 1 || size > api.MaxCount {
		return api.ErrTreeSize
	}
	if index < 0 || index >= size {
		return api.ErrTreeIndex
	}
	if len(path) != pathLen(size, index) || rootBy(path, size, index, leaf) != root {
		return api.ErrTreePath
	}
	return api.OK
}

// pathLen is how many digests the path of a leaf has.
func pathLen(size, index int) int {
	if size == 1 {
		return 0
	}
	k := firstPart(size)
	if index < k {
		return pathLen(k, index) + 1
	}
	return pathLen(size-k, index-k) + 1
}

// rootBy is what a leaf and a path of the right length come to.
func rootBy(path []api.Digest, size, index int, leaf []byte) api.Digest {
	if size == 1 {
		return Leaf(leaf)
	}
	rest, last := cutLast(path)
	k := firstPart(size)
	if index < k {
		return Node(rootBy(rest, k, index, leaf), last)
	}
	return Node(last, rootBy(rest, size-k, index-k, leaf))
}

// cutLast parts the last digest from the rest, which keeps no room over it: whoever appends to the rest does not write into the path.
func cutLast(path []api.Digest) ([]api.Digest, api.Digest) {
	at := len(path) - 1
	return path[:at:at], path[at]
}

// Grew tells whether a path shows that.
func Grew(was api.Digest, old int, root api.Digest, size int, path []api.Digest) api.Errno {
	if size < 0 || size > api.MaxCount || old < 0 || old > size {
		return api.ErrTreeSize
	}
	if len(path) != growthLen(old, size) || !leads(was, old, root, size, path) {
		return api.ErrTreePath
	}
	return api.OK
}

// growthLen is how many digests the growth from old of size leaves has.
func growthLen(old, size int) int {
	if old == 0 {
		return 0
	}
	return growthSteps(old, size, true)
}

func growthSteps(old, size int, known bool) int {
	if old == size {
		if known {
			return 0
		}
		return 1
	}
	k := firstPart(size)
	if old <= k {
		return growthSteps(old, k, known) + 1
	}
	return growthSteps(old-k, size-k, false) + 1
}

// leads tells whether a path of the right length leads from the old root to the new one.
func leads(was api.Digest, old int, root api.Digest, size int, path []api.Digest) bool {
	switch old {
	case 0:
		none := Root(nil)
		return was == none && (size > 0 || root == none)
	case size:
		return was == root
	}
	before, after := rootsBy(path, old, size, true, was)
	return before == was && after == root
}

// rootsBy is what a growth of the right length comes to: the root of the first old leaves, and that of all. The old root stands in for what is known (see growthOf).
func rootsBy(path []api.Digest, old, size int, known bool, was api.Digest) (api.Digest, api.Digest) {
	if old == size {
		if known {
			return was, was
		}
		return path[0], path[0]
	}
	rest, last := cutLast(path)
	k := firstPart(size)
	if old <= k {
		before, after := rootsBy(rest, old, k, known, was)
		return before, Node(after, last)
	}
	before, after := rootsBy(rest, old-k, size-k, false, was)
	return Node(last, before), Node(last, after)
}
