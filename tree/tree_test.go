package tree

import (
	"bytes"
	"math"
	"math/rand"
	"slices"
	"strconv"
	"testing"

	"causeway/api"
)

const most = 1 << 40

// many is how many leaves are tried at every index and every old number.
const many = 70

func texts(all ...string) [][]byte {
	var leaves [][]byte
	for _, s := range all {
		leaves = append(leaves, []byte(s))
	}
	return leaves
}

func five() [][]byte { return texts("a", "b", "c", "d", "e") }

// leavesOf are n unlike leaves: one has no bytes, some fill more than a piece of the digest.
func leavesOf(n int) [][]byte {
	var leaves [][]byte
	for i := range n {
		leaf := append([]byte(strconv.Itoa(i)), make([]byte, i*7%70)...)
		if i == 3 {
			leaf = nil
		}
		leaves = append(leaves, leaf)
	}
	return leaves
}

func digestOf(b byte) api.Digest { return api.Digest(bytes.Repeat([]byte{b}, 32)) }

// randomDigests are n of them.
func randomDigests(r *rand.Rand, n int) []api.Digest {
	all := make([]api.Digest, n)
	for i := range all {
		r.Read(all[i][:])
	}
	return all
}

// roomy is the same list with room behind it that must stay as it is.
func roomy(path []api.Digest) []api.Digest {
	with := append(slices.Clone(path), digestOf(201), digestOf(202), digestOf(203))
	return with[:len(path)]
}

// wantRoom tells if a roomy list, or what is behind it, is another one than it was.
func wantRoom(t *testing.T, what string, got, was []api.Digest) {
	t.Helper()
	if !slices.Equal(got, was) || !slices.Equal(got[len(got):len(got)+3], []api.Digest{digestOf(201), digestOf(202), digestOf(203)}) {
		t.Errorf("%s: the list handed in, or its spare room, has changed", what)
	}
}

func wantPath(t *testing.T, what string, got []api.Digest, e api.Errno, wanted []api.Digest, f api.Errno) {
	t.Helper()
	if !slices.Equal(got, wanted) || e != f {
		t.Errorf("%s: %x, %d, not %x, %d", what, got, e, wanted, f)
	}
}

func wantErr(t *testing.T, what string, got, wanted api.Errno) {
	t.Helper()
	if got != wanted {
		t.Errorf("%s: %d, not %d", what, got, wanted)
	}
}

func TestErrorsNumbers(t *testing.T) {
	got := []api.Errno{api.ErrTreeSize, api.ErrTreeIndex, api.ErrTreeFront, api.ErrTreePath}
	if !slices.Equal(got, []api.Errno{40, 41, 42, 43}) || api.MaxCount != most {
		t.Errorf("errors' numbers: %d; MaxCount %d", got, int(api.MaxCount))
	}
}

func TestP4_1_LeafAndNode(t *testing.T) {
	for _, data := range [][]byte{nil, {}, {0}, {1}, []byte("a"), make([]byte, 54), make([]byte, 55), make([]byte, 63), make([]byte, 64), make([]byte, 65), make([]byte, 4096)} {
		if Leaf(data) != sha.leaf(data) {
			t.Errorf("Leaf of %d bytes", len(data))
		}
	}
	a, b := digestOf(1), digestOf(2)
	for _, c := range [][2]api.Digest{{a, b}, {b, a}, {a, a}, {{}, {}}, {{}, a}} {
		if Node(c[0], c[1]) != sha.node(c[0], c[1]) {
			t.Errorf("Node of %x", c)
		}
	}
	if Leaf(slices.Concat(a[:], b[:])) == Node(a, b) || Leaf(nil) == Root(nil) {
		t.Errorf("a leaf passes for a node, or for no leaf")
	}
}

func TestP4_1_Examples(t *testing.T) {
	a, b, c, d, e := sha.leaf([]byte("a")), sha.leaf([]byte("b")), sha.leaf([]byte("c")), sha.leaf([]byte("d")), sha.leaf([]byte("e"))
	ab, cd := sha.node(a, b), sha.node(c, d)
	wanted := []api.Digest{sha(nil), a, ab, sha.node(ab, c), sha.node(ab, cd), sha.node(sha.node(ab, cd), e)}
	for n, w := range wanted {
		if Root(five()[:n]) != w {
			t.Errorf("the root of %d leaves", n)
		}
	}
	if none := Root([][]byte{}); none != Root(nil) || none[0] != 0xe3 || none[1] != 0xb0 || none[2] != 0xc4 || none[3] != 0x42 {
		t.Errorf("the root of no leaves: %x", none)
	}
}

func TestP4_1_RootOfEverySize(t *testing.T) {
	leaves := leavesOf(300)
	for n := range len(leaves) + 1 {
		if Root(leaves[:n]) != sha.root(leaves[:n]) {
			t.Errorf("the root of %d leaves", n)
		}
	}
}

func TestP4_1_LeavesOfNoBytes(t *testing.T) {
	for n := range 20 {
		nils, empties := make([][]byte, n), make([][]byte, n)
		for i := range empties {
			empties[i] = []byte{}
		}
		if Root(nils) != sha.root(nils) || Root(empties) != sha.root(nils) {
			t.Errorf("%d leaves of no bytes", n)
		}
		for i := range n {
			got, e := Path(nils, i)
			wantPath(t, "Path of leaves that are nil", got, e, sha.path(empties, i), api.OK)
			wantErr(t, "Check of nil", Check(sha.root(nils), n, i, nil, got), api.OK)
			wantErr(t, "Check of no bytes", Check(sha.root(nils), n, i, []byte{}, got), api.OK)
			wantErr(t, "Check of a byte of nought", Check(sha.root(nils), n, i, []byte{0}, got), api.ErrTreePath)
		}
	}
}

func TestP4_2_Examples(t *testing.T) {
	a, b, c, d, e := Leaf([]byte("a")), Leaf([]byte("b")), Leaf([]byte("c")), Leaf([]byte("d")), Leaf([]byte("e"))
	ab, cd := Node(a, b), Node(c, d)
	for i, wanted := range [][]api.Digest{{b, cd, e}, {a, cd, e}, {d, ab, e}, {c, ab, e}, {Node(ab, cd)}} {
		got, f := Path(five(), i)
		wantPath(t, "Path of "+strconv.Itoa(i), got, f, wanted, api.OK)
		wantErr(t, "Check of "+strconv.Itoa(i), Check(Root(five()), 5, i, five()[i], wanted), api.OK)
	}
	for _, i := range []int{5, -1, 6, math.MaxInt, math.MinInt} {
		got, f := Path(five(), i)
		wantPath(t, "Path of "+strconv.Itoa(i), got, f, nil, api.ErrTreeIndex)
	}
	for _, i := range []int{0, 1, -1} {
		got, f := Path(nil, i)
		wantPath(t, "Path of no leaf", got, f, nil, api.ErrTreeIndex)
	}
	wantErr(t, "Check of one leaf", Check(a, 1, 0, []byte("a"), nil), api.OK)
	wantErr(t, "Check of one leaf, another one", Check(a, 1, 0, []byte("b"), nil), api.ErrTreePath)
	wantErr(t, "Check of one leaf, a digest too many", Check(a, 1, 0, []byte("a"), []api.Digest{a}), api.ErrTreePath)
}

func TestP4_2_PathsOfEveryIndex(t *testing.T) {
	leaves := leavesOf(many)
	for n := range many + 1 {
		for i := -1; i <= n; i++ {
			got, e := Path(leaves[:n], i)
			if i < 0 || i == n {
				wantPath(t, "Path", got, e, nil, api.ErrTreeIndex)
				continue
			}
			wantPath(t, "Path", got, e, sha.path(leaves[:n], i), api.OK)
		}
	}
}

// changed are lists that are not the given one: a digest changed at each place, one left away, one more.
func changed(path []api.Digest) [][]api.Digest {
	var all [][]api.Digest
	for i := range path {
		other := slices.Clone(path)
		other[i][i%32] ^= 1 << (i % 8)
		all = append(all, other, slices.Delete(slices.Clone(path), i, i+1))
		all = append(all, slices.Insert(slices.Clone(path), i, path[i]), slices.Insert(slices.Clone(path), i, api.Digest{}))
		if i > 0 && path[i] != path[i-1] {
			other = slices.Clone(path)
			other[i], other[i-1] = other[i-1], other[i]
			all = append(all, other)
		}
	}
	return append(all, append(slices.Clone(path), api.Digest{}), append(slices.Clone(path), Root(nil)))
}

func TestP4_2_CheckRefusesWhatIsChanged(t *testing.T) {
	leaves := leavesOf(many)
	for n := 1; n <= many; n++ {
		root := sha.root(leaves[:n])
		for i := range n {
			path := sha.path(leaves[:n], i)
			wantErr(t, "Check", Check(root, n, i, leaves[i], path), api.OK)
			for _, other := range changed(path) {
				wantErr(t, "Check of a changed path", Check(root, n, i, leaves[i], other), api.ErrTreePath)
			}
			wantErr(t, "Check of another leaf", Check(root, n, i, append(slices.Clone(leaves[i]), 7), path), api.ErrTreePath)
			other := root
			other[n%32] ^= 0x10
			wantErr(t, "Check of another root", Check(other, n, i, leaves[i], path), api.ErrTreePath)
		}
	}
}

// Another size or index may lead there all the same: the shape alone tells, as the second reckoning does.
func TestP4_2_CheckOfOtherSizesAndIndexes(t *testing.T) {
	leaves := leavesOf(33)
	for n := 1; n <= 33; n++ {
		root := sha.root(leaves[:n])
		for i := range n {
			path := sha.path(leaves[:n], i)
			for size := -1; size <= 36; size++ {
				for _, at := range []int{-1, 0, i - 1, i, i + 1, i ^ 1, i ^ 2, n - 1, n, size - 1, size} {
					wantErr(t, "Check, size "+strconv.Itoa(size)+", index "+strconv.Itoa(at), Check(root, size, at, leaves[i], path), sha.check(root, size, at, leaves[i], path))
				}
			}
		}
	}
}

func TestP4_2_OrderOfErrors(t *testing.T) {
	root, two := Root(five()), []api.Digest{{}, {}}
	for _, size := range []int{0, -1, most + 1, most * 2, math.MaxInt, math.MinInt} {
		for _, index := range []int{0, -1, 5, size, math.MaxInt} {
			wantErr(t, "a size that may not be", Check(root, size, index, nil, two), api.ErrTreeSize)
			wantErr(t, "a size that may not be", Check(root, size, index, nil, nil), api.ErrTreeSize)
		}
	}
	for _, size := range []int{1, 2, 3, 4, 5, most - 1, most} {
		for _, index := range []int{-1, size, size + 1, math.MaxInt, math.MinInt} {
			wantErr(t, "an index that may not be", Check(root, size, index, nil, two), api.ErrTreeIndex)
		}
		wantErr(t, "a path that does not lead there", Check(root, size, size-1, nil, two[:1]), api.ErrTreePath)
	}
}

// greatSizes are the edges of numbers of leaves that no list here has.
func greatSizes() []int {
	sizes := []int{most, most - 1, most - 2, most/2 + 1, most / 3, most / 5 * 4}
	for n := 1; n < most; n *= 2 {
		sizes = append(sizes, n, n+1)
		if n > 2 {
			sizes = append(sizes, n-1)
		}
	}
	return sizes
}

func TestP4_2_CheckOfGreatSizes(t *testing.T) {
	r := rand.New(rand.NewSource(1))
	leaf := []byte("leaf")
	for _, size := range greatSizes() {
		for _, index := range []int{0, 1, size / 2, size - 2, size - 1, r.Intn(size)} {
			if index < 0 || index >= size {
				continue
			}
			path := randomDigests(r, pathLength(size, index))
			root, _ := sha.climb(size, index, leaf, path)
			wantErr(t, "Check of a great size", Check(root, size, index, leaf, path), api.OK)
			for _, other := range changed(path) {
				wantErr(t, "Check of a great size, changed", Check(root, size, index, leaf, other), api.ErrTreePath)
			}
		}
	}
	if root, whole := sha.climb(most, most-1, leaf, make([]api.Digest, 40)); !whole || Check(root, most, most-1, leaf, make([]api.Digest, 40)) != api.OK {
		t.Errorf("Check of MaxCount leaves has not 40 digests")
	}
}

func TestP4_3_Examples(t *testing.T) {
	a, b, c, d, e := Leaf([]byte("a")), Leaf([]byte("b")), Leaf([]byte("c")), Leaf([]byte("d")), Leaf([]byte("e"))
	ab, cd := Node(a, b), Node(c, d)
	none, root := Root(nil), Root(five())
	for old, wanted := range [][]api.Digest{nil, {b, cd, e}, {cd, e}, {c, d, ab, e}, {e}, nil} {
		got, f := Growth(five(), old)
		wantPath(t, "Growth from "+strconv.Itoa(old), got, f, wanted, api.OK)
		wantErr(t, "Grew from "+strconv.Itoa(old), Grew(Root(five()[:old]), old, root, 5, wanted), api.OK)
	}
	for _, old := range []int{6, -1, math.MaxInt, math.MinInt} {
		got, f := Growth(five(), old)
		wantPath(t, "Growth from "+strconv.Itoa(old), got, f, nil, api.ErrTreeSize)
	}
	got, f := Growth(nil, 0)
	wantPath(t, "Growth of no leaf", got, f, nil, api.OK)
	got, f = Growth(nil, 1)
	wantPath(t, "Growth of no leaf from 1", got, f, nil, api.ErrTreeSize)
	for _, any := range []api.Digest{root, none, {}, digestOf(9)} {
		wantErr(t, "Grew from nothing to any root", Grew(none, 0, any, 5, nil), api.OK)
		wantErr(t, "Grew from nothing, a digest too many", Grew(none, 0, any, 5, []api.Digest{any}), api.ErrTreePath)
	}
	for _, other := range []api.Digest{root, {}, a} {
		wantErr(t, "Grew from nothing, another old root", Grew(other, 0, root, 5, nil), api.ErrTreePath)
		wantErr(t, "Grew from nothing to nothing, another root", Grew(none, 0, other, 0, nil), api.ErrTreePath)
		wantErr(t, "Grew from nothing to nothing, both others", Grew(other, 0, other, 0, nil), api.ErrTreePath)
	}
	wantErr(t, "Grew from nothing to nothing", Grew(none, 0, none, 0, nil), api.OK)
	wantErr(t, "Grew from nothing to nothing, a digest too many", Grew(none, 0, none, 0, []api.Digest{none}), api.ErrTreePath)
}

func TestP4_3_GrowthsOfEveryOld(t *testing.T) {
	leaves := leavesOf(many)
	for n := range many + 1 {
		for old := -1; old <= n+1; old++ {
			got, e := Growth(leaves[:n], old)
			if old < 0 || old > n {
				wantPath(t, "Growth", got, e, nil, api.ErrTreeSize)
				continue
			}
			wantPath(t, "Growth", got, e, sha.growth(leaves[:n], old), api.OK)
		}
	}
}

func TestP4_3_GrewRefusesWhatIsChanged(t *testing.T) {
	leaves := leavesOf(many)
	for n := range many + 1 {
		root := sha.root(leaves[:n])
		for old := range n + 1 {
			was, path := sha.root(leaves[:old]), sha.growth(leaves[:n], old)
			wantErr(t, "Grew", Grew(was, old, root, n, path), api.OK)
			for _, other := range changed(path) {
				wantErr(t, "Grew of a changed path", Grew(was, old, root, n, other), api.ErrTreePath)
			}
			other := was
			other[n%32] ^= 4
			wantErr(t, "Grew of another old root", Grew(other, old, root, n, path), api.ErrTreePath)
			other = root
			other[old%32] ^= 0x80
			wanted := api.ErrTreePath
			if old == 0 && n > 0 {
				wanted = api.OK
			}
			wantErr(t, "Grew of another root", Grew(was, old, other, n, path), wanted)
			if was != root {
				wantErr(t, "Grew, both roots exchanged", Grew(root, old, was, n, path), api.ErrTreePath)
			}
		}
	}
}

func TestP4_3_GrewOfOtherSizes(t *testing.T) {
	leaves := leavesOf(24)
	for n := range 25 {
		root := sha.root(leaves[:n])
		for old := range n + 1 {
			was, path := sha.root(leaves[:old]), sha.growth(leaves[:n], old)
			for size := -1; size <= 26; size++ {
				for from := -1; from <= 27; from++ {
					wantErr(t, "Grew from "+strconv.Itoa(from)+" to "+strconv.Itoa(size), Grew(was, from, root, size, path), sha.grew(was, from, root, size, path))
				}
			}
		}
	}
}

func TestP4_3_Sizes(t *testing.T) {
	none, some := Root(nil), digestOf(3)
	for _, c := range []struct{ old, size int }{{0, -1}, {-1, -1}, {-1, 0}, {1, 0}, {6, 5}, {-1, 5}, {0, most + 1}, {5, most + 1}, {most + 1, most + 1}, {most + 1, most}, {math.MinInt, 5}, {math.MaxInt, 5}, {0, math.MinInt}, {math.MinInt, math.MinInt}, {math.MaxInt, math.MaxInt}} {
		for _, path := range [][]api.Digest{nil, {some}} {
			wantErr(t, "Grew of a size that may not be", Grew(none, c.old, none, c.size, path), api.ErrTreeSize)
			wantErr(t, "Grew of a size that may not be", Grew(some, c.old, none, c.size, path), api.ErrTreeSize)
		}
	}
	wantErr(t, "Grew from nothing to MaxCount", Grew(none, 0, some, most, nil), api.OK)
	wantErr(t, "Grew from MaxCount to MaxCount", Grew(some, most, some, most, nil), api.OK)
	wantErr(t, "Grew from MaxCount to MaxCount, another root", Grew(some, most, none, most, nil), api.ErrTreePath)
}

func TestP4_3_GrewOfGreatSizes(t *testing.T) {
	r := rand.New(rand.NewSource(2))
	for _, size := range greatSizes() {
		for _, old := range []int{1, 2, 3, size / 2, size/2 + 1, size - 2, size - 1, r.Intn(size) + 1} {
			if old < 1 || old >= size {
				continue
			}
			was := digestOf(byte(old))
			path := randomDigests(r, growthLength(old, size))
			was, root, _ := sha.grow(was, old, size, path)
			wantErr(t, "Grew of a great size", Grew(was, old, root, size, path), api.OK)
			for _, other := range changed(path) {
				wantErr(t, "Grew of a great size, changed", Grew(was, old, root, size, other), api.ErrTreePath)
			}
			was[0] ^= 1
			wantErr(t, "Grew of a great size, another old root", Grew(was, old, root, size, path), api.ErrTreePath)
		}
	}
}

func TestP4_4_Examples(t *testing.T) {
	l := New()
	for i, leaf := range five() {
		if got := l.Add(leaf); got != i {
			t.Errorf("Add: %d, not %d", got, i)
		}
	}
	a, b, c, d, e := Leaf([]byte("a")), Leaf([]byte("b")), Leaf([]byte("c")), Leaf([]byte("d")), Leaf([]byte("e"))
	four := Node(Node(a, b), Node(c, d))
	wantLog(t, "five", l, 5, Node(four, e), []api.Digest{four, e})
}

// wantLog holds a log against what is asked, twice: asking changes nothing.
func wantLog(t *testing.T, what string, l *Log, size int, root api.Digest, front []api.Digest) {
	t.Helper()
	for range 2 {
		if l.Size() != size || l.Root() != root || !slices.Equal(l.Front(), front) {
			t.Errorf("%s: %d leaves, root %x, frontier %x, not %d, %x, %x", what, l.Size(), l.Root(), l.Front(), size, root, front)
		}
	}
}

func TestP4_4_LogAtEverySize(t *testing.T) {
	leaves := leavesOf(300)
	l := New()
	for n := range len(leaves) + 1 {
		wantLog(t, "log", l, n, sha.root(leaves[:n]), sha.front(leaves[:n]))
		if n < len(leaves) && l.Add(leaves[n]) != n {
			t.Errorf("Add of leaf %d", n)
		}
	}
}

func TestP4_4_FullLog(t *testing.T) {
	top := digestOf(5)
	l, e := Resume(most, []api.Digest{top})
	wantErr(t, "Resume at MaxCount", e, api.OK)
	for range 3 {
		if got := l.Add([]byte("x")); got != -1 {
			t.Errorf("Add to a full log: %d", got)
		}
		wantLog(t, "full", l, most, top, []api.Digest{top})
	}
}

func TestP4_4_LastLeaf(t *testing.T) {
	front := randomDigests(rand.New(rand.NewSource(3)), 40)
	l, e := Resume(most-1, front)
	wantErr(t, "Resume one below MaxCount", e, api.OK)
	root := front[39]
	for i := 38; i >= 0; i-- {
		root = sha.node(front[i], root)
	}
	wantLog(t, "one below full", l, most-1, root, front)
	if got := l.Add([]byte("x")); got != most-1 {
		t.Errorf("Add of the last leaf: %d", got)
	}
	root = sha.leaf([]byte("x"))
	for i := 39; i >= 0; i-- {
		root = sha.node(front[i], root)
	}
	wantLog(t, "full", l, most, root, []api.Digest{root})
	if got := l.Add(nil); got != -1 {
		t.Errorf("Add to a full log: %d", got)
	}
	wantLog(t, "full", l, most, root, []api.Digest{root})
}

func TestP4_4_TwoLogsHaveNothingToDoWithEachOther(t *testing.T) {
	one, other := New(), New()
	one.Add([]byte("a"))
	wantLog(t, "the other one", other, 0, Root(nil), nil)
	other.Add([]byte("b"))
	wantLog(t, "the one", one, 1, Leaf([]byte("a")), []api.Digest{Leaf([]byte("a"))})
}

func TestP4_5_Examples(t *testing.T) {
	a, b, c, d, e, f := Leaf([]byte("a")), Leaf([]byte("b")), Leaf([]byte("c")), Leaf([]byte("d")), Leaf([]byte("e")), Leaf([]byte("f"))
	four := Node(Node(a, b), Node(c, d))
	l, errno := Resume(5, []api.Digest{four, e})
	wantErr(t, "Resume at 5", errno, api.OK)
	if got := l.Add([]byte("f")); got != 5 {
		t.Errorf("Add: %d, not 5", got)
	}
	wantLog(t, "six", l, 6, Node(four, Node(e, f)), []api.Digest{four, Node(e, f)})
	l, errno = Resume(0, nil)
	wantErr(t, "Resume at 0", errno, api.OK)
	wantLog(t, "no leaf", l, 0, Root(nil), nil)
	if l.Add([]byte("a")) != 0 {
		t.Errorf("Add to a resumed log without a leaf")
	}
	wantLog(t, "one leaf", l, 1, a, []api.Digest{a})
}

func TestP4_5_Refused(t *testing.T) {
	for _, c := range []struct {
		size, front int
		e           api.Errno
	}{
		{-1, 0, 40}, {-1, 64, 40}, {-1, 1, 40}, {math.MinInt, 0, 40}, {math.MinInt, 1, 40}, {most + 1, 2, 40}, {most + 1, 0, 40}, {2 * most, 1, 40}, {math.MaxInt, 63, 40},
		{0, 1, 42}, {1, 0, 42}, {1, 2, 42}, {2, 0, 42}, {2, 2, 42}, {3, 1, 42}, {3, 3, 42}, {5, 1, 42}, {5, 3, 42}, {most, 0, 42}, {most, 2, 42}, {most, 40, 42}, {most - 1, 39, 42}, {most - 1, 41, 42}, {most - 1, 1, 42},
		{0, 0, 0}, {1, 1, 0}, {2, 1, 0}, {3, 2, 0}, {most, 1, 0}, {most - 1, 40, 0}, {most/2 + 1, 2, 0},
	} {
		l, e := Resume(c.size, make([]api.Digest, c.front))
		if e != c.e || (l == nil) != (e != api.OK) {
			t.Errorf("Resume(%d, %d digests): %d, not %d", c.size, c.front, e, c.e)
		}
	}
}

func TestP4_5_ResumedAtEverySize(t *testing.T) {
	leaves := leavesOf(many)
	for n := range many + 1 {
		l, e := Resume(n, sha.front(leaves[:n]))
		wantErr(t, "Resume", e, api.OK)
		for at := n; ; at++ {
			wantLog(t, "resumed at "+strconv.Itoa(n), l, at, sha.root(leaves[:at]), sha.front(leaves[:at]))
			if at == many {
				break
			}
			if got := l.Add(leaves[at]); got != at {
				t.Errorf("resumed at %d: Add: %d, not %d", n, got, at)
			}
		}
	}
}

// Whatever leaves these were: a frontier that no leaves are known of goes on too.
func TestP4_5_AnyFrontier(t *testing.T) {
	r := rand.New(rand.NewSource(4))
	front := randomDigests(r, 3)
	l, e := Resume(most/2+6, front)
	wantErr(t, "Resume", e, api.OK)
	wantLog(t, "any", l, most/2+6, sha.node(front[0], sha.node(front[1], front[2])), front)
	x, y := sha.leaf([]byte("x")), sha.leaf([]byte("y"))
	if l.Add([]byte("x")) != most/2+6 || !slices.Equal(l.Front(), append(front, x)) {
		t.Errorf("any: behind one leaf %x", l.Front())
	}
	eight := sha.node(front[1], sha.node(front[2], sha.node(x, y)))
	if l.Add([]byte("y")) != most/2+7 || !slices.Equal(l.Front(), []api.Digest{front[0], eight}) {
		t.Errorf("any: behind two leaves %x", l.Front())
	}
}

func TestP4_6_WhatIsMadeIsTaken(t *testing.T) {
	r := rand.New(rand.NewSource(5))
	sizes := []int{1, 2, 3, 127, 128, 129, 1000}
	if !testing.Short() {
		sizes = append(sizes, 1023, 1024, 1025, 5000)
	}
	for _, n := range sizes {
		leaves := leavesOf(n)
		root, l := Root(leaves), New()
		for _, leaf := range leaves {
			l.Add(leaf)
		}
		for range 20 {
			i, old := r.Intn(n), r.Intn(n+1)
			path, e := Path(leaves, i)
			wantErr(t, "Path", e, api.OK)
			wantErr(t, "Check", Check(root, n, i, leaves[i], path), api.OK)
			grown, e := Growth(leaves, old)
			wantErr(t, "Growth", e, api.OK)
			wantErr(t, "Grew", Grew(Root(leaves[:old]), old, root, n, grown), api.OK)
		}
		again, e := Resume(l.Size(), l.Front())
		if e != api.OK || l.Root() != root || again.Root() != root {
			t.Errorf("a log of %d leaves, or a resumed one: another root", n)
		}
	}
}

func TestP4_6_LeavesThatAreAlike(t *testing.T) {
	leaves := make([][]byte, 20)
	for n := 1; n <= 20; n++ {
		root := Root(leaves[:n])
		for i := range n {
			path, _ := Path(leaves[:n], i)
			wantErr(t, "Check", Check(root, n, i, nil, path), api.OK)
			grown, _ := Growth(leaves[:n], i)
			wantErr(t, "Grew", Grew(Root(leaves[:i]), i, root, n, grown), api.OK)
		}
	}
}

func TestR1_NilReceivers(t *testing.T) {
	var l *Log
	if l.Add([]byte("a")) != 0 || l.Size() != 0 || l.Root() != (api.Digest{}) || len(l.Front()) != 0 {
		t.Errorf("a nil log answers something")
	}
}

func TestR4_WhatIsHandedInStays(t *testing.T) {
	leaves := leavesOf(13)
	for i := range leaves {
		leaves[i] = append(leaves[i], 250, 251, 252)[:len(leaves[i])]
	}
	want := make([][]byte, 13)
	for i := range leaves {
		want[i] = slices.Clone(leaves[i][:len(leaves[i])+3])
	}
	l, root := New(), Root(leaves)
	for i, leaf := range leaves {
		l.Add(leaf)
		path, _ := Path(leaves, i)
		given := roomy(path)
		wantErr(t, "Check", Check(root, 13, i, leaf, given), api.OK)
		wantRoom(t, "Check", given, path)
		grown, _ := Growth(leaves, i)
		given = roomy(grown)
		wantErr(t, "Grew", Grew(Root(leaves[:i]), i, root, 13, given), api.OK)
		wantRoom(t, "Grew", given, grown)
	}
	for i := range leaves {
		if !bytes.Equal(leaves[i][:len(leaves[i])+3], want[i]) {
			t.Errorf("leaf %d, or its spare room, has changed", i)
		}
	}
}

func TestR4_ListOfLeavesStays(t *testing.T) {
	leaves := leavesOf(16)
	first := leaves[:9]
	Root(first)
	Path(first, 8)
	Growth(first, 7)
	for i, leaf := range leavesOf(16) {
		if !bytes.Equal(leaves[i], leaf) {
			t.Errorf("leaf %d of the list, or of its spare room, has changed", i)
		}
	}
}

func TestR4_FrontIsNotKept(t *testing.T) {
	front := []api.Digest{digestOf(1), digestOf(2), digestOf(3)}
	given := roomy(front)
	l, _ := Resume(7, given)
	given[1] = digestOf(9)
	if !slices.Equal(l.Front(), front) {
		t.Errorf("Resume keeps the list that it was handed")
	}
	given[1] = digestOf(2)
	for range 30 {
		l.Add([]byte("x"))
		wantRoom(t, "Resume", given, front)
	}
	other, _ := Resume(7, given)
	wantLog(t, "resumed again", other, 7, Node(front[0], Node(front[1], front[2])), front)
}

func TestR4_LeafIsNotKept(t *testing.T) {
	leaf := []byte("a")
	l := New()
	l.Add(leaf)
	leaf[0] = 'b'
	wantLog(t, "one leaf", l, 1, Leaf([]byte("a")), []api.Digest{Leaf([]byte("a"))})
}

// spoil fills a list and its spare room.
func spoil(list []api.Digest) {
	list = list[:cap(list)]
	for i := range list {
		list[i] = digestOf(77)
	}
}

func TestR4_AnswersAreNewMemory(t *testing.T) {
	leaves := leavesOf(13)
	l := New()
	for _, leaf := range leaves {
		l.Add(leaf)
	}
	front := sha.front(leaves)
	for range 2 {
		path, e := Path(leaves, 5)
		wantPath(t, "Path", path, e, sha.path(leaves, 5), api.OK)
		spoil(path)
		grown, e := Growth(leaves, 6)
		wantPath(t, "Growth", grown, e, sha.growth(leaves, 6), api.OK)
		spoil(grown)
		wantLog(t, "log", l, 13, sha.root(leaves), front)
		spoil(l.Front())
	}
	// What a caller appends to a part of an answer must not be seen by the log, nor by another answer.
	got, other := l.Front(), l.Front()
	got = append(got[:1], digestOf(8), digestOf(9))
	_ = append(got, digestOf(10))
	if !slices.Equal(other, front) {
		t.Errorf("two answers of Front share memory")
	}
	wantLog(t, "log", l, 13, sha.root(leaves), front)
	l.Add([]byte("x"))
	if !slices.Equal(other, front) {
		t.Errorf("Add writes into what Front answered")
	}
}

func TestWays_CutLastLeavesNoRoom(t *testing.T) {
	path := []api.Digest{digestOf(1), digestOf(2), digestOf(3)}
	rest, last := cutLast(path)
	if cap(rest) != 2 || last != digestOf(3) {
		t.Errorf("cutLast: room for %d, last %x", cap(rest), last)
	}
	_ = append(rest, digestOf(4))
	if path[2] != digestOf(3) {
		t.Errorf("who appends to the rest writes into the path")
	}
}

// FuzzAgainstTheWords holds Check and Grew against the second reckoning, of any numbers and any digests. Paths of the right length, and the roots that they come to, are tried beside.
func FuzzAgainstTheWords(f *testing.F) {
	f.Add(5, 3, []byte("abcde"))
	f.Add(most, most-1, bytes.Repeat([]byte("x"), 40))
	f.Add(0, 0, []byte{})
	f.Fuzz(func(t *testing.T, size, at int, data []byte) {
		var path []api.Digest
		for i := range data[:min(len(data), 100)] {
			path = append(path, sha(data[i:]))
		}
		tryBoth(t, size, at, data, path)
		if size < 1 || size > most || at < 0 || at >= size {
			return
		}
		n := pathLength(size, at)
		tryBoth(t, size, at, data, append(path, make([]api.Digest, n)...)[:n])
		if at > 0 {
			n = growthLength(at, size)
			tryBoth(t, size, at, data, append(path, make([]api.Digest, n)...)[:n])
		}
	})
}

func tryBoth(t *testing.T, size, at int, leaf []byte, path []api.Digest) {
	t.Helper()
	roots := []api.Digest{sha(nil), sha.leaf(leaf)}
	was := sha(nil)
	if size > 0 && size <= most && at >= 0 && at < size {
		root, _ := sha.climb(size, at, leaf, path)
		roots = append(roots, root)
		if at > 0 {
			before, after, _ := sha.grow(was, at, size, path)
			was, roots = before, append(roots, before, after)
		}
	}
	for _, root := range roots {
		wantErr(t, "Check", Check(root, size, at, leaf, path), sha.check(root, size, at, leaf, path))
		wantErr(t, "Grew", Grew(was, at, root, size, path), sha.grew(was, at, root, size, path))
		wantErr(t, "Grew", Grew(root, at, was, size, path), sha.grew(root, at, was, size, path))
	}
}

func BenchmarkRoot1000(b *testing.B) {
	leaves := leavesOf(1000)
	for b.Loop() {
		Root(leaves)
	}
}

func BenchmarkAdd(b *testing.B) {
	l := New()
	leaf := make([]byte, 54)
	for b.Loop() {
		l.Add(leaf)
	}
}
