package tree

import (
	"bytes"
	"maps"
	"math/rand"
	"slices"
	"strconv"
	"testing"

	"causeway/api"
)

// P4.7 and P4.8 are tried in two ways. With SHA-256, nobody knows two texts of one digest: whatever is made of a tree's own texts and digests must be refused where the promise's case would be at hand. With a weak digest the case is at hand, and the second reckoning, which the other tests hold against the program, must have digested two unlike texts of one digest.

// ownTexts are what a forger has at hand: the leaves, the texts of the nodes with and without their mark, the digests.
func ownTexts(leaves [][]byte) [][]byte {
	all := slices.Clone(leaves)
	for _, level := range sha.levels(leaves) {
		for i, d := range level {
			all = append(all, d[:], append([]byte{1}, d[:]...), append([]byte{0}, d[:]...))
			if i > 0 {
				both := slices.Concat(level[i-1][:], d[:])
				all = append(all, both, append([]byte{1}, both...), append([]byte{0}, both...))
			}
		}
	}
	return all
}

// ownPaths are all paths of a tree, and each part of them.
func ownPaths(leaves [][]byte) [][]api.Digest {
	var all [][]api.Digest
	for i := range leaves {
		path := sha.path(leaves, i)
		for from := range len(path) + 1 {
			for to := from; to <= len(path); to++ {
				all = append(all, path[from:to])
			}
		}
	}
	return all
}

func TestP4_7_NoOtherLeafIsTaken(t *testing.T) {
	for n := 1; n <= 7; n++ {
		leaves := leavesOf(n)
		root, forged, paths := sha.root(leaves), ownTexts(leaves), ownPaths(leaves)
		for i := range n {
			wantErr(t, "Check of the leaf", Check(root, n, i, leaves[i], sha.path(leaves, i)), api.OK)
			for _, other := range forged {
				if bytes.Equal(other, leaves[i]) {
					continue
				}
				for _, path := range paths {
					wantErr(t, "Check of an unlike leaf", Check(root, n, i, other, path), api.ErrTreePath)
				}
			}
		}
	}
}

// mixed are all lists whose digests stand, each at its place, in one of two lists of one length.
func mixed(one, other []api.Digest) [][]api.Digest {
	if len(one) == 0 {
		return [][]api.Digest{nil}
	}
	var all [][]api.Digest
	for _, rest := range mixed(one[1:], other[1:]) {
		all = append(all, slices.Concat(one[:1], rest), slices.Concat(other[:1], rest))
	}
	return all
}

func TestP4_8_NoOtherPastIsTaken(t *testing.T) {
	const n = 13
	for size := 1; size <= n; size++ {
		told := leavesOf(size)
		root := sha.root(told)
		for old := 1; old <= size; old++ {
			for i := range old {
				truth := leavesOf(size)
				truth[i] = []byte("unlike")
				was := sha.root(truth[:old])
				wantErr(t, "Check under the old root", Check(was, old, i, truth[i], sha.path(truth[:old], i)), api.OK)
				wantErr(t, "Check under the new root", Check(root, size, i, told[i], sha.path(told, i)), api.OK)
				wantErr(t, "Grew, as it was", Grew(was, old, sha.root(truth), size, sha.growth(truth, old)), api.OK)
				for _, path := range mixed(sha.growth(truth, old), sha.growth(told, old)) {
					wantErr(t, "Grew to a root over another past", Grew(was, old, root, size, path), api.ErrTreePath)
				}
			}
		}
	}
}

// weak is a digest that has only some values, and writes down which texts it has digested.
func weak(values int, seen map[string]api.Digest) hash {
	return func(text []byte) api.Digest {
		d := sha(text)
		d = api.Digest{31: d[0] % byte(values)}
		seen[string(text)] = d
		return d
	}
}

// haveOneDigest tells whether two unlike texts of one digest are among some.
func haveOneDigest(seen map[string]api.Digest) bool {
	found := map[api.Digest]bool{}
	for d := range maps.Values(seen) {
		if found[d] {
			return true
		}
		found[d] = true
	}
	return false
}

// weakDigests are n of those that a weak digest has.
func weakDigests(r *rand.Rand, values, n int) []api.Digest {
	all := make([]api.Digest, n)
	for i := range all {
		all[i] = api.Digest{31: byte(r.Intn(values))}
	}
	return all
}

func TestP4_7_TwoLeavesAreTwoTextsOfOneDigest(t *testing.T) {
	const values = 60
	r := rand.New(rand.NewSource(7))
	for size := 1; size <= 9; size++ {
		for index := range size {
			n := pathLength(size, index)
			for taken := 0; taken < 20; {
				seen := map[string]api.Digest{}
				h := weak(values, seen)
				root, _ := h.climb(size, index, []byte(strconv.Itoa(r.Intn(1000))), weakDigests(r, values, n))
				other := []byte("unlike" + strconv.Itoa(r.Intn(1000)))
				if h.check(root, size, index, other, weakDigests(r, values, n)) != api.OK {
					continue
				}
				taken++
				if !haveOneDigest(seen) {
					t.Errorf("two leaves at %d of %d, and no two texts of one digest", index, size)
				}
			}
		}
	}
}

func TestP4_8_TwoPastsAreTwoTextsOfOneDigest(t *testing.T) {
	const values = 12
	r := rand.New(rand.NewSource(8))
	for size := 1; size <= 9; size++ {
		for old := 1; old <= size; old++ {
			for taken := 0; taken < 20; {
				seen := map[string]api.Digest{}
				h := weak(values, seen)
				index := r.Intn(old)
				was, _ := h.climb(old, index, []byte("was"+strconv.Itoa(r.Intn(1000))), weakDigests(r, values, pathLength(old, index)))
				root, _ := h.climb(size, index, []byte("is"+strconv.Itoa(r.Intn(1000))), weakDigests(r, values, pathLength(size, index)))
				if h.grew(was, old, root, size, weakDigests(r, values, growthLength(old, size))) != api.OK {
					continue
				}
				taken++
				if !haveOneDigest(seen) {
					t.Errorf("two pasts of %d at %d from %d, and no two texts of one digest", size, index, old)
				}
			}
		}
	}
}
