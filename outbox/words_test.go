package outbox

import (
	"crypto/sha256"
	"maps"
	"math/big"
	"slices"

	"causeway/api"
	"causeway/store"
)

// The second reckoning: a leaf's bytes as text, by the library's numbers; roots and paths level by level, Check by the bits of the numbers; a store's outbox as text, to which a leaf is added as one is added to a number; a book as a list of leaves. Errors and limits are written out, not taken from api. The digest is handed in, so that the promise about two texts of one digest can be tried with one that is weak.

type hash func(text string) string

func sha(text string) string {
	d := sha256.Sum256([]byte(text))
	return string(d[:])
}

func (h hash) leaf(text string) string        { return h("\x00" + text) }
func (h hash) node(left, right string) string { return h("\x01" + left + right) }

// levels are a tree's digests, level by level; one without a neighbour goes up as it is.
func (h hash) levels(leaves []string) [][]string {
	var level []string
	for _, text := range leaves {
		level = append(level, h.leaf(text))
	}
	all := [][]string{level}
	for len(level) > 1 {
		var next []string
		for two := range slices.Chunk(level, 2) {
			if len(two) == 2 {
				two = []string{h.node(two[0], two[1])}
			}
			next = append(next, two[0])
		}
		level = next
		all = append(all, level)
	}
	return all
}

func (h hash) root(leaves []string) string {
	if len(leaves) == 0 {
		return h("")
	}
	all := h.levels(leaves)
	return all[len(all)-1][0]
}

// path is the neighbours of what stands over a leaf, where it has one.
func (h hash) path(leaves []string, index int) []string {
	var path []string
	for _, level := range h.levels(leaves) {
		if beside := index ^ 1; beside < len(level) {
			path = append(path, level[beside])
		}
		index >>= 1
	}
	return path
}

// climb goes from a leaf up, by the bits of its number and of the last one's: the root, and whether the path was of the right length.
func (h hash) climb(size, index int, text string, path []string) (string, bool) {
	at, last, root := index, size-1, h.leaf(text)
	for ; last > 0; at, last = at>>1, last>>1 {
		if at == last && at&1 == 0 {
			continue // it has no neighbour
		}
		if len(path) == 0 {
			return "", false
		}
		if at&1 == 1 {
			root = h.node(path[0], root)
		} else {
			root = h.node(root, path[0])
		}
		path = path[1:]
	}
	return root, len(path) == 0
}

func bigOf(a api.Wide) *big.Int {
	n := new(big.Int)
	for i := 3; i >= 0; i-- {
		n.Lsh(n, 64).Or(n, new(big.Int).SetUint64(a[i]))
	}
	return n
}

func wideOf(n *big.Int) api.Wide {
	var a api.Wide
	for i := range a {
		a[i] = new(big.Int).Rsh(n, uint(64*i)).Uint64()
	}
	return a
}

// inForm is a number as chapter 3 writes it, of either kind.
func inForm(n *big.Int) string {
	b := n.Bytes()
	return string([]byte{byte(len(b))}) + string(b)
}

// inEight is a number in 8 bytes, the highest first.
func inEight(n int) string { return string(big.NewInt(int64(n)).FillBytes(make([]byte, 8))) }

// most is 2^40.
func most() *big.Int { return new(big.Int).Lsh(big.NewInt(1), 40) }

// isLeaf tells whether a leaf may be.
func isLeaf(l api.Leaf) bool {
	for _, n := range []int{l.Index, l.Entry} {
		if n < 0 || big.NewInt(int64(n)).Cmp(most()) >= 0 {
			return false
		}
	}
	return l.Token >= 0 && l.Token <= 63 && bigOf(l.Amount).Sign() > 0
}

// textOf is the bytes of one that may be.
func textOf(l api.Leaf) string {
	text := "L"
	for _, n := range []int{l.Index, l.Entry, l.Token} {
		text += inForm(big.NewInt(int64(n)))
	}
	return text + string(l.To[:]) + inForm(bigOf(l.Amount))
}

// saidBytes is what Bytes answers by the words.
func saidBytes(l api.Leaf) (string, api.Errno) {
	if !isLeaf(l) {
		return "", 110
	}
	return textOf(l), 0
}

// saidRead is what Read answers by the words: whatever numbers stand there are taken, and then it is asked whether these are the bytes of that leaf.
func saidRead(text string) (api.Leaf, api.Errno) {
	left := text
	cut := func(n int) string {
		n = min(n, len(left))
		piece := left[:n]
		left = left[n:]
		return piece
	}
	number := func() *big.Int {
		n := new(big.Int)
		for _, k := range []byte(cut(1)) {
			n.SetBytes([]byte(cut(int(k))))
		}
		return n
	}
	var l api.Leaf
	cut(1)
	for _, field := range []*int{&l.Index, &l.Entry, &l.Token} {
		n := number()
		if !n.IsInt64() {
			return api.Leaf{}, 110
		}
		*field = int(n.Int64())
	}
	copy(l.To[:], cut(20))
	l.Amount = wideOf(number())
	if !isLeaf(l) || textOf(l) != text {
		return api.Leaf{}, 110
	}
	return l, 0
}

// saidCheck is what Check answers by the words.
func (h hash) saidCheck(root string, size int, l api.Leaf, path []string) api.Errno {
	switch {
	case !isLeaf(l):
		return 110
	case size < 0 || big.NewInt(int64(size)).Cmp(most()) > 0:
		return 112
	case l.Index >= size:
		return 111
	}
	if got, fits := h.climb(size, l.Index, textOf(l), path); !fits || got != root {
		return 113
	}
	return 0
}

// shelf is what a state is by the words.
type shelf struct {
	has     map[string]string    // what the source has
	refuses map[string]api.Errno // where it refuses
	now     map[string]string    // of each key that was told: what stands there
	asked   []string             // what the source was asked
}

func newShelf(has map[string]string, refuses map[string]api.Errno) *shelf {
	return &shelf{has: has, refuses: refuses, now: map[string]string{}}
}

func (x *shelf) get(key string) (string, api.Errno) {
	if value, told := x.now[key]; told {
		return value, 0
	}
	x.asked = append(x.asked, key)
	if e := x.refuses[key]; e != 0 {
		return "", e
	}
	if len(x.has[key]) > 4096 {
		return "", 71
	}
	x.now[key] = x.has[key]
	return x.now[key], 0
}

func (x *shelf) touched() []string { return slices.Sorted(maps.Keys(x.now)) }

func (x *shelf) changes() map[string][2]string {
	all := map[string][2]string{}
	for key, value := range x.now {
		if x.has[key] != value {
			all[key] = [2]string{x.has[key], value}
		}
	}
	return all
}

// box asks for the outbox: how many leaves, and the frontier's digests.
func (x *shelf) box() (int, []string, api.Errno) {
	value, e := x.get("o")
	if e != 0 || value == "" {
		return 0, nil, e
	}
	if len(value) < 8 {
		return 0, nil, 75
	}
	n, ones := new(big.Int).SetBytes([]byte(value[:8])), 0
	for i := range 64 {
		ones += int(n.Bit(i))
	}
	if n.Sign() == 0 || n.Cmp(most()) > 0 || len(value) != 8+32*ones {
		return 0, nil, 75
	}
	var front []string
	for at := 8; at < len(value); at += 32 {
		front = append(front, value[at:at+32])
	}
	return int(n.Int64()), front, 0
}

func (x *shelf) add(l api.Leaf) (int, api.Errno) {
	if l.Index != 0 || !isLeaf(l) {
		return 0, 110
	}
	n, front, e := x.box()
	if e != 0 {
		return 0, e
	}
	if big.NewInt(int64(n)).Cmp(most()) == 0 {
		return 0, 114
	}
	l.Index = n
	d := hash(sha).leaf(textOf(l))
	for left := n; left%2 == 1; left /= 2 {
		d = hash(sha).node(front[len(front)-1], d)
		front = front[:len(front)-1]
	}
	x.now["o"] = inEight(n+1) + joined(front) + d
	return n, 0
}

func (x *shelf) size() (int, api.Errno) {
	n, _, e := x.box()
	return n, e
}

func (x *shelf) root() (string, api.Errno) {
	_, front, e := x.box()
	switch {
	case e != 0:
		return "", e
	case len(front) == 0:
		return sha(""), 0
	}
	root := front[len(front)-1]
	for _, d := range slices.Backward(front[:len(front)-1]) {
		root = hash(sha).node(d, root)
	}
	return root, 0
}

func joined(all []string) string {
	text := ""
	for _, piece := range all {
		text += piece
	}
	return text
}

// saidBook is a book by the words.
type saidBook []api.Leaf

func (b saidBook) texts(size int) []string {
	var all []string
	for _, l := range b[:size] {
		all = append(all, textOf(l))
	}
	return all
}

// call is one of the chapter's of a state or a book, with its arguments.
type call struct {
	name        string
	leaf        api.Leaf
	index, size int
}

// answer is what a call answers; what it does not tell is zero.
type answer struct {
	number int
	root   string
	leaf   api.Leaf
	path   string // its digests behind one another
	code   api.Errno
}

func stateCalls() []string { return []string{"Add", "Size", "Root"} }
func bookCalls() []string  { return []string{"Put", "Len", "Leaf", "Root", "Path", "Cut"} }

// inShelf is what the words answer of a state, and what becomes of a shelf.
func (c call) inShelf(x *shelf) (told answer) {
	switch c.name {
	case "Add":
		told.number, told.code = x.add(c.leaf)
	case "Size":
		told.number, told.code = x.size()
	case "Root":
		told.root, told.code = x.root()
	}
	return told
}

// inState is what the package answers.
func (c call) inState(s *store.State) (told answer) {
	switch c.name {
	case "Add":
		told.number, told.code = Add(s, c.leaf)
	case "Size":
		told.number, told.code = Size(s)
	case "Root":
		told.root, told.code = rootText(Root(s))
	}
	return told
}

// inWords is what the words answer of a book, and what becomes of it.
func (c call) inWords(b *saidBook) (told answer) {
	noSize := c.size < 0 || c.size > len(*b)
	switch c.name {
	case "Put":
		switch {
		case !isLeaf(c.leaf):
			told.code = 110
		case c.leaf.Index != len(*b):
			told.code = 111
		default:
			*b = append(*b, c.leaf)
		}
	case "Len":
		told.number = len(*b)
	case "Leaf":
		if c.index < 0 || c.index >= len(*b) {
			return answer{code: 111}
		}
		told.leaf = (*b)[c.index]
	case "Root":
		if noSize {
			return answer{code: 112}
		}
		told.root = hash(sha).root(b.texts(c.size))
	case "Path":
		switch {
		case noSize:
			return answer{code: 112}
		case c.index < 0 || c.index >= c.size:
			return answer{code: 111}
		}
		told.path = joined(hash(sha).path(b.texts(c.size), c.index))
	case "Cut":
		if noSize {
			return answer{code: 112}
		}
		*b = slices.Clone((*b)[:c.size])
	}
	return told
}

// inBook is what the package answers.
func (c call) inBook(b *Book) (told answer) {
	switch c.name {
	case "Put":
		told.code = b.Put(c.leaf)
	case "Len":
		told.number = b.Len()
	case "Leaf":
		told.leaf, told.code = b.Leaf(c.index)
	case "Root":
		told.root, told.code = rootText(b.Root(c.size))
	case "Path":
		var path []api.Digest
		path, told.code = b.Path(c.index, c.size)
		told.path = joined(textsOf(path))
	case "Cut":
		told.code = b.Cut(c.size)
	}
	return told
}

// rootText is a root as text; beside an error it must be noughts, which are told as nothing.
func rootText(d api.Digest, e api.Errno) (string, api.Errno) {
	if e != api.OK && d == (api.Digest{}) {
		return "", e
	}
	return string(d[:]), e
}

func textsOf(path []api.Digest) []string {
	var all []string
	for _, d := range path {
		all = append(all, string(d[:]))
	}
	return all
}

func digestsOf(path []string) []api.Digest {
	var all []api.Digest
	for _, d := range path {
		all = append(all, api.Digest([]byte(d)))
	}
	return all
}
