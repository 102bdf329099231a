package outbox

import (
	"fmt"
	"maps"
	"math/rand"
	"slices"
	"testing"

	"causeway/api"
	"causeway/store"
)

// drawnLeaf is a leaf of a long script that may be; now and then it is spoilt.
func drawnLeaf(r *rand.Rand) api.Leaf {
	l := api.Leaf{Entry: r.Intn(full), Token: r.Intn(64), Amount: of(1 + uint64(r.Intn(9)))}
	if r.Intn(3) == 0 {
		r.Read(l.To[:])
		l.Amount = api.Wide{r.Uint64(), r.Uint64(), r.Uint64(), r.Uint64()}
	}
	switch r.Intn(40) {
	case 0:
		l.Entry = []int{-1, full}[r.Intn(2)]
	case 1:
		l.Token = []int{-1, 64}[r.Intn(2)]
	case 2:
		l.Amount = of(0)
	}
	return l
}

// Behind each leaf the state and the book agree, with each other and with the words.
func TestP11_6_TheStateAndTheBook(t *testing.T) {
	steps := 1200
	if testing.Short() {
		steps = 150
	}
	table := store.NewTable()
	table.Put("ne", []byte("another's"))
	s, b := stateOver(t, table), New()
	var said []string
	for i := range steps {
		l := at(0, leafOf(i))
		index, e := Add(s, l)
		wantErr(t, "Add", e, api.OK)
		wantErr(t, "Put", b.Put(at(index, l)), api.OK)
		said = append(said, textOf(leafOf(i)))
		size, e := Size(s)
		if index != i || size != i+1 || b.Len() != i+1 || e != api.OK {
			t.Fatalf("leaf %d has the index %d; Size is %d, %d, and Len %d", i, index, size, e, b.Len())
		}
		one, e := Root(s)
		two, f := b.Root(b.Len())
		if one != two || string(one[:]) != hash(sha).root(said) || e != api.OK || f != api.OK {
			t.Fatalf("behind %d leaves: the state has the root %x, %d, the book %x, %d", i+1, one, e, two, f)
		}
	}
	// What is over is in the table as it was in the state.
	wantErr(t, "Apply", table.Apply(s.Changes()...), api.OK)
	over := stateOver(t, table)
	one, _ := Root(over)
	two, _ := Root(s)
	if size, _ := Size(over); size != steps || one != two {
		t.Errorf("the table that comes of it has %d leaves under %x", size, one)
	}
}

// Check takes each path of each size; and of no other size, but where the words take it.
func TestP11_6_EachPathOfEachSize(t *testing.T) {
	most := 48
	if testing.Short() {
		most = 20
	}
	b, said := bookOf(t, leavesOf(most)), leavesOf(most)
	for size := range most + 1 {
		root, e := b.Root(size)
		wantErr(t, "Root", e, api.OK)
		for index := range size {
			path, e := b.Path(index, size)
			wantErr(t, "Path", e, api.OK)
			wantErr(t, "Check", Check(root, size, leafOf(index), path), api.OK)
			if joined(textsOf(path)) != joined(hash(sha).path(said.texts(size), index)) {
				t.Errorf("the path of %d of %d", index, size)
			}
			for _, other := range []int{size - 1, size + 1, 2 * size, index, index + 1, full} {
				wantErr(t, fmt.Sprint("Check with size ", other, " for ", size), Check(root, other, leafOf(index), path), hash(sha).saidCheck(string(root[:]), other, leafOf(index), textsOf(path)))
			}
		}
	}
}

// weak is a digest that has only some values, and writes down which texts it has digested.
func weak(values int, seen map[string]string) hash {
	return func(text string) string {
		d := zeros(31) + string([]byte{sha(text)[0] % byte(values)})
		seen[text] = d
		return d
	}
}

// haveOneDigest tells whether two unlike texts of one digest are among some.
func haveOneDigest(seen map[string]string) bool {
	found := map[string]bool{}
	for d := range maps.Values(seen) {
		if found[d] {
			return true
		}
		found[d] = true
	}
	return false
}

func drawnPath(r *rand.Rand, values, n int) []string {
	var path []string
	for range n {
		path = append(path, zeros(31)+string([]byte{byte(r.Intn(values))}))
	}
	return path
}

// With a weak digest two leaves at one place are at hand: then two unlike texts of one digest were hashed for them.
func TestP11_7_TwoLeavesAreTwoTextsOfOneDigest(t *testing.T) {
	const values = 60
	r := rand.New(rand.NewSource(7))
	for size := 1; size <= 9; size++ {
		for index := range size {
			n := len(hash(sha).path(leavesOf(size).texts(size), index))
			for taken := 0; taken < 20; {
				seen := map[string]string{}
				h := weak(values, seen)
				one, two := leafOf(index), leafOf(index)
				one.Entry, two.Entry = r.Intn(1000), 1000+r.Intn(1000)
				root, _ := h.climb(size, index, textOf(one), drawnPath(r, values, n))
				if h.saidCheck(root, size, two, drawnPath(r, values, n)) != 0 {
					continue
				}
				taken++
				if !haveOneDigest(seen) {
					t.Errorf("two leaves at %d of %d, and no two texts of one digest", index, size)
				}
			}
		}
	}
}

// With SHA-256 nobody knows two such texts: whatever is made of an outbox's own leaves and digests, no unlike leaf is taken at an index.
func TestP11_7_NoOtherLeafIsTaken(t *testing.T) {
	for n := 1; n <= 7; n++ {
		texts := leavesOf(n).texts(n)
		root := hash(sha).root(texts)
		var paths [][]string
		for i := range n {
			path := hash(sha).path(texts, i)
			for from := range len(path) + 1 {
				for to := from; to <= len(path); to++ {
					paths = append(paths, path[from:to])
				}
			}
		}
		for i := range n {
			var forged []api.Leaf
			for other := range n + 1 {
				if other != i {
					forged = append(forged, at(i, leafOf(other)))
				}
			}
			for _, l := range append(forged, others(leafOf(i))...) {
				for _, path := range paths {
					wantCheck(t, "an unlike leaf", root, n, l, path, api.ErrOutboxPath)
				}
			}
		}
	}
}

// What is cut and put again is as if it had never been cut.
func TestP11_8_CutAndPutAgain(t *testing.T) {
	for _, n := range []int{1, 2, 3, 4, 7, 8, 9, 16, 21} {
		never, said := bookOf(t, leavesOf(n)), leavesOf(n)
		for size := range n + 1 {
			b := bookOf(t, leavesOf(n))
			wantErr(t, "Cut", b.Cut(size), api.OK)
			wantSame(t, "behind Cut", b, said[:size])
			for _, l := range said[size:] {
				wantErr(t, "Put again", b.Put(l), api.OK)
			}
			wantSame(t, "put again", b, said)
			wantAlike(t, b, never)
			// Other leaves in the place of those that were cut.
			other := slices.Clone(said)
			wantErr(t, "Cut", b.Cut(size), api.OK)
			for i := size; i < n; i++ {
				other[i].Entry++
				wantErr(t, "Put of another one", b.Put(other[i]), api.OK)
			}
			wantSame(t, "others in their place", b, other)
		}
	}
}

// What is cut off is not kept, not even in the list's room.
func TestP11_8_CutKeepsNothing(t *testing.T) {
	b := bookOf(t, leavesOf(20))
	wantErr(t, "Cut", b.Cut(7), api.OK)
	for i, text := range b.texts[:cap(b.texts)] {
		if (len(text) > 0) != (i < 7) {
			t.Errorf("at %d of a book that was cut to 7 stand %d bytes", i, len(text))
		}
	}
}

// wantAlike: two books tell the same of all sizes.
func wantAlike(t testing.TB, one, two *Book) {
	t.Helper()
	if one.Len() != two.Len() {
		t.Errorf("two books have %d and %d leaves", one.Len(), two.Len())
	}
	for size := range one.Len() + 1 {
		wantAnswer(t, "Root", call{name: "Root", size: size}.inBook(one), call{name: "Root", size: size}.inBook(two))
		for index := range size {
			c := call{name: "Path", index: index, size: size}
			wantAnswer(t, fmt.Sprint(c), c.inBook(one), c.inBook(two))
		}
	}
}

// drawnBookCall is a call of a long script, where a book has so many leaves.
func drawnBookCall(r *rand.Rand, has int) call {
	list := []string{"Put", "Put", "Put", "Put", "Put", "Put", "Put", "Put", "Len", "Leaf", "Root", "Path", "Path", "Cut"}
	c := call{name: list[r.Intn(len(list))], leaf: at(has, drawnLeaf(r)), size: r.Intn(has+3) - 1}
	c.index = r.Intn(max(1, c.size)+2) - 1
	if c.name == "Cut" && r.Intn(3) > 0 { // more often a little
		c.size = has - r.Intn(4)
	}
	if r.Intn(20) == 0 {
		c.leaf.Index += r.Intn(3) - 1
	}
	return c
}

// Two books in turns, with cuts, against the words: they have nothing to do with each other.
func TestP11_4And5_TwoBooksInTurns(t *testing.T) {
	seeds, steps := 8, 500
	if testing.Short() {
		seeds = 2
	}
	codes := map[string]map[api.Errno]int{}
	for seed := range seeds {
		r := rand.New(rand.NewSource(int64(seed)))
		books, said := []*Book{New(), New()}, []saidBook{nil, nil}
		for i := range steps {
			c := drawnBookCall(r, len(said[i%2]))
			got := wantInBook(t, "in turns", books[i%2], &said[i%2], c)
			if codes[c.name] == nil {
				codes[c.name] = map[api.Errno]int{}
			}
			codes[c.name][got.code]++
		}
		for i, b := range books {
			wantSame(t, "at last", b, said[i])
			wantAlike(t, b, bookOf(t, said[i]))
		}
		if t.Failed() {
			t.FailNow()
		}
	}
	for name, wanted := range map[string][]api.Errno{"Put": {0, 110, 111}, "Leaf": {0, 111}, "Root": {0, 112}, "Path": {0, 111, 112}, "Cut": {0, 112}} {
		for _, e := range wanted {
			if codes[name][e] < 3 && !testing.Short() {
				t.Errorf("the scripts met %s with %d %d times", name, e, codes[name][e])
			}
		}
	}
}

// drawnStateCall is a call of a long script.
func drawnStateCall(r *rand.Rand) call {
	c := call{name: []string{"Add", "Add", "Add", "Add", "Size", "Root"}[r.Intn(6)], leaf: drawnLeaf(r)}
	if r.Intn(20) == 0 {
		c.leaf.Index = r.Intn(5) - 2
	}
	return c
}

// Long scripts over outboxes of any size, whatever their digests are.
func TestP11_2_LongScripts(t *testing.T) {
	for seed := range 12 {
		r := rand.New(rand.NewSource(int64(seed)))
		value := ""
		if n := r.Intn(full); seed > 2 {
			value = inEight(n) + ones(popcount(n))
		}
		b := over(t, value, map[string]api.Errno{})
		for range 300 {
			clear(b.source.refuses)
			if len(b.said.now) == 0 && r.Intn(2) == 0 { // as long as it has not told
				b.source.refuses["o"] = api.ErrStoreMissing
			}
			b.wantCall(t, "a long script", drawnStateCall(r))
		}
	}
}

// Steps that were taken back leave nothing: indices come again, under the same roots.
func TestP11_2_MarksAndBack(t *testing.T) {
	for seed := range 8 {
		r := rand.New(rand.NewSource(int64(50 + seed)))
		b := over(t, "", nil)
		var marks []string
		for range 300 {
			switch r.Intn(12) {
			case 0:
				if m := b.state.Mark(); m != len(marks) {
					t.Fatalf("the mark %d has the number %d: a call has made one", len(marks), m)
				}
				b.said.get("o")
				b.state.Get("o")
				marks = append(marks, b.said.now["o"])
			case 1:
				if len(marks) == 0 {
					continue
				}
				to := r.Intn(len(marks))
				wantErr(t, "Back", b.state.Back(to), api.OK)
				b.said.now["o"], marks = marks[to], marks[:to+1]
			default:
				b.wantCall(t, "marks and back", drawnStateCall(r))
			}
		}
	}
}

// A state whose steps are taken back, and a book that is cut to as many, agree.
func TestP11_8_BackAndCut(t *testing.T) {
	r := rand.New(rand.NewSource(11))
	s, b := stateOver(t, store.NewTable()), New()
	put := func(n int) {
		for range n {
			l := api.Leaf{Entry: r.Intn(full), Token: r.Intn(64), Amount: of(1)}
			index, e := Add(s, l)
			wantErr(t, "Add", e, api.OK)
			wantErr(t, "Put", b.Put(at(index, l)), api.OK)
		}
	}
	for range 20 {
		put(r.Intn(6))
		mark, size := s.Mark(), b.Len()
		put(r.Intn(20))
		wantErr(t, "Back", s.Back(mark), api.OK)
		wantErr(t, "Cut", b.Cut(size), api.OK)
		put(r.Intn(3))
		one, _ := Root(s)
		two, _ := b.Root(b.Len())
		if has, _ := Size(s); has != b.Len() || one != two {
			t.Errorf("the state has %d leaves under %x, the book %d under %x", has, one, b.Len(), two)
		}
	}
}

// Two states over one table know nothing of each other, and do not turn it.
func TestP11_2_TwoStates(t *testing.T) {
	table := store.NewTable()
	table.Put("o", []byte(inEight(5)+ones(2)))
	root := table.Root()
	one, two := stateOver(t, table), stateOver(t, table)
	said := newShelf(map[string]string{"o": inEight(5) + ones(2)}, nil)
	for i := range 100 {
		c := call{name: "Add", leaf: at(0, leafOf(i))}
		wantAnswer(t, "Add", c.inState(one), c.inShelf(said))
		if i%3 == 0 {
			call{name: "Add", leaf: sample()}.inState(two)
		}
		wantAnswer(t, "Root", call{name: "Root"}.inState(one), call{name: "Root"}.inShelf(said))
	}
	if size, _ := Size(two); size != 39 {
		t.Errorf("the other state has %d leaves", size)
	}
	if table.Root() != root {
		t.Errorf("the table was turned")
	}
}

// FuzzAgainstTheWords takes bytes as a leaf, as what stands in a store, as a path, and as calls of a book.
func FuzzAgainstTheWords(f *testing.F) {
	f.Add([]byte(textOf(sample())), []byte(inEight(3)+ones(2)), []byte(ones(2)), 5, []byte("\x00\x00\x00\x11\x22\x33\x00\x45\x53\x00"))
	f.Add([]byte(textOf(leafOf(300))), []byte(inEight(full-1)+ones(40)), []byte(ones(40)), full, []byte("\x00\x00\x00\x00\x00\x52\x00\x00\x45\x34"))
	f.Add([]byte{}, []byte(inEight(full)+ones(1)), []byte{}, 0, []byte("\x50\x00\x50\x40\x30\x20"))
	f.Add([]byte(textOf(at(2, sample()))), []byte("\x80"+zeros(7)+ones(1)), []byte(ones(1)), 3, []byte{})
	f.Fuzz(func(t *testing.T, text, value, path []byte, size int, script []byte) {
		l, e := saidRead(string(text))
		wantRead(t, string(text), l, e)
		if e == 0 {
			wantBytes(t, l, string(text), api.OK)
		}
		b := over(t, string(value), nil)
		for _, name := range []string{"Size", "Root", "Add", "Size", "Root", "Add"} {
			b.wantCall(t, "fuzz", call{name: name, leaf: at(0, l)})
		}
		var digests []string
		for ; len(path) >= 32 && len(digests) < 64; path = path[32:] {
			digests = append(digests, string(path[:32]))
		}
		root := zeros(32)
		if e == 0 && size > l.Index && size <= full {
			if climbed, fits := hash(sha).climb(size, l.Index, string(text), digests); fits {
				root = climbed
			}
		}
		wantErr(t, "Check", Check(api.Digest([]byte(root)), size, l, digestsOf(digests)), hash(sha).saidCheck(root, size, l, digests))
		book, said := New(), saidBook{}
		for _, x := range script[:min(len(script), 200)] {
			has := len(said)
			c := call{name: bookCalls()[int(x>>4)%6], leaf: at(has, sample()), index: has - int(x%8), size: has - int(x%4)}
			if c.leaf.Entry = int(x); x == 0x0f {
				c.leaf.Index--
			}
			wantInBook(t, "fuzz", book, &said, c)
		}
	})
}

func BenchmarkAdd(b *testing.B) {
	s := stateOver(b, store.NewTable())
	for b.Loop() {
		Add(s, sample())
	}
}

func BenchmarkPathOfAThousand(b *testing.B) {
	book := bookOf(b, leavesOf(1000))
	for b.Loop() {
		book.Path(500, 1000)
	}
}
