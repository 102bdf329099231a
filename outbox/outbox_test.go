package outbox

import (
	"bytes"
	"crypto/sha256"
	"fmt"
	"maps"
	"math"
	"math/big"
	"slices"
	"strings"
	"testing"

	"causeway/api"
	"causeway/store"
)

const (
	all  = 1<<64 - 1
	full = 1 << 40
)

func ann() api.Address { return api.Address{1} }

func of(n uint64) api.Wide { return api.Wide{n} }

// greatest is 2^256 - 1.
func greatest() api.Wide { return api.Wide{all, all, all, all} }

// zeros are bytes of nought.
func zeros(n int) string { return string(make([]byte, n)) }

// ones are digests that are unlike each other, as they stand in a store.
func ones(n int) string {
	text := ""
	for i := range n {
		text += sha(fmt.Sprint("one ", i))
	}
	return text
}

// eightBytes is a number as it stands in a store.
func eightBytes(n uint64) string {
	return string(new(big.Int).SetUint64(n).FillBytes(make([]byte, 8)))
}

// sample is a leaf as Add takes it.
func sample() api.Leaf {
	return api.Leaf{Entry: 5, Token: 3, To: ann(), Amount: of(256)}
}

// at is a leaf with an index.
func at(index int, l api.Leaf) api.Leaf {
	l.Index = index
	return l
}

// leafOf is the i-th of many unlike leaves, with numbers of all lengths.
func leafOf(i int) api.Leaf {
	l := api.Leaf{Index: i, Entry: (i * i * 7919 << (i % 20)) % full, Token: i % 64}
	l.To[i%20] = byte(i)
	l.Amount[i%4] = uint64(i) + 1
	return l
}

// leavesOf are the first n of them.
func leavesOf(n int) saidBook {
	var all saidBook
	for i := range n {
		all = append(all, leafOf(i))
	}
	return all
}

func bookOf(t testing.TB, leaves saidBook) *Book {
	t.Helper()
	b := New()
	for _, l := range leaves {
		wantErr(t, "Put", b.Put(l), api.OK)
	}
	return b
}

// scripted is a source that has some values, refuses at some keys, and writes down what it is asked.
type scripted struct {
	has     map[string]string
	refuses map[string]api.Errno
	asked   []string
}

func (s *scripted) Find(key string) ([]byte, api.Errno) {
	s.asked = append(s.asked, key)
	if e := s.refuses[key]; e != api.OK {
		return []byte(eightBytes(1) + ones(1)), e
	}
	return []byte(s.has[key]), api.OK
}

func stateOver(t testing.TB, source store.Source) *store.State {
	t.Helper()
	s, e := store.Over(source)
	if e != api.OK {
		t.Fatalf("Over: %d", e)
	}
	return s
}

// both is a state and what it is by the words.
type both struct {
	source *scripted
	state  *store.State
	said   *shelf
}

func over(t testing.TB, value string, refuses map[string]api.Errno) both {
	t.Helper()
	has := map[string]string{"o": value}
	source := &scripted{has: has, refuses: refuses}
	return both{source, stateOver(t, source), newShelf(has, refuses)}
}

func changesOf(s *store.State) map[string][2]string {
	told := map[string][2]string{}
	for _, c := range s.Changes() {
		told[c.Key] = [2]string{string(c.Old), string(c.New)}
	}
	return told
}

func wantErr(t testing.TB, what string, got, wanted api.Errno) {
	t.Helper()
	if got != wanted {
		t.Errorf("%s: %d, not %d", what, int(got), int(wanted))
	}
}

func wantAnswer(t testing.TB, what string, got, wanted answer) {
	t.Helper()
	if got != wanted {
		t.Errorf("%s: %#v, not %#v", what, got, wanted)
	}
}

// wantCall makes a call in a state and by the words: they must answer the same, ask the same, and leave the same.
func (b both) wantCall(t testing.TB, what string, c call) answer {
	t.Helper()
	got := c.inState(b.state)
	wantAnswer(t, what+", "+c.name, got, c.inShelf(b.said))
	if !slices.Equal(b.source.asked, b.said.asked) {
		t.Errorf("%s: %v asked %q, not %q", what, c, b.source.asked, b.said.asked)
	}
	if got, wanted := b.state.Touched(), b.said.touched(); !slices.Equal(got, wanted) {
		t.Errorf("%s: %v touched %q, not %q", what, c, got, wanted)
	}
	if got, wanted := changesOf(b.state), b.said.changes(); !maps.Equal(got, wanted) {
		t.Errorf("%s: %v changes %q, not %q", what, c, got, wanted)
	}
	return got
}

// wantRefused makes a call that is to be refused: nothing else is told, and nothing is laid.
func (b both) wantRefused(t testing.TB, what string, c call, wanted api.Errno) {
	t.Helper()
	ahead := changesOf(b.state)
	wantAnswer(t, what+", "+c.name, b.wantCall(t, what, c), answer{code: wanted})
	if behind := changesOf(b.state); !maps.Equal(ahead, behind) {
		t.Errorf("%s: %v was refused, and laid something: %q, not %q", what, c, behind, ahead)
	}
}

// wantInBook makes a call of a book and by the words.
func wantInBook(t testing.TB, what string, b *Book, said *saidBook, c call) answer {
	t.Helper()
	got := c.inBook(b)
	wantAnswer(t, fmt.Sprint(what, ", ", c), got, c.inWords(said))
	return got
}

func TestErrorsNumbers(t *testing.T) {
	for e, n := range map[api.Errno]int{
		api.OK: 0, api.ErrArg: 1, api.ErrOutboxLeaf: 110, api.ErrOutboxIndex: 111, api.ErrOutboxSize: 112, api.ErrOutboxPath: 113, api.ErrOutboxFull: 114,
		api.ErrStoreValue: 71, api.ErrStoreMissing: 74, api.ErrStoreForm: 75,
	} {
		if int(e) != n {
			t.Errorf("an error has the number %d, not %d", int(e), n)
		}
	}
	if api.MaxCount != full || api.MaxTokens != 64 {
		t.Errorf("MaxCount is %d, MaxTokens is %d", api.MaxCount, api.MaxTokens)
	}
}

func TestR1_Nil(t *testing.T) {
	for _, l := range []api.Leaf{sample(), {}, at(1, sample()), at(-1, sample())} { // ahead of all else
		for _, name := range stateCalls() {
			wantAnswer(t, name+" of a nil state", call{name: name, leaf: l}.inState(nil), answer{code: api.ErrArg})
		}
	}
}

func TestExamples(t *testing.T) {
	first, second := api.Leaf{Entry: 5, Token: 3, Amount: of(256)}, api.Leaf{Index: 1, Entry: 6, Token: 3, Amount: of(1)}
	text := "\x4c\x00\x01\x05\x01\x03" + zeros(20) + "\x02\x01\x00"
	if b, e := Bytes(first); string(b) != text || len(b) != 29 || e != api.OK {
		t.Errorf("Bytes: %x, %d", b, e)
	}
	for _, l := range []api.Leaf{{Entry: 5, Token: 3}, {Index: -1, Amount: of(1)}, {Entry: full, Amount: of(1)}, {Token: 64, Amount: of(1)}} {
		wantBytes(t, l, "", api.ErrOutboxLeaf)
	}
	wantRead(t, text, first, api.OK)
	for _, other := range []string{text + "\x00", text[:28], ""} {
		wantRead(t, other, api.Leaf{}, api.ErrOutboxLeaf)
	}

	s := stateOver(t, store.NewTable())
	wantAnswer(t, "Size", call{name: "Size"}.inState(s), answer{})
	wantAnswer(t, "Root", call{name: "Root"}.inState(s), answer{root: sha("")})
	wantAnswer(t, "Add", call{name: "Add", leaf: first}.inState(s), answer{})
	wantAnswer(t, "Add", call{name: "Add", leaf: second}.inState(s), answer{code: api.ErrOutboxLeaf})
	one := sha("\x00" + text)
	if got, wanted := changesOf(s), map[string][2]string{"o": {"", zeros(7) + "\x01" + one}}; !maps.Equal(got, wanted) {
		t.Errorf("the store has %x, not %x", got, wanted)
	}
	wantAnswer(t, "Root", call{name: "Root"}.inState(s), answer{root: one})
	wantAnswer(t, "Add", call{name: "Add", leaf: at(0, second)}.inState(s), answer{number: 1})
	two := sha("\x00\x4c\x01\x01\x01\x06\x01\x03" + zeros(20) + "\x01\x01")
	root := sha("\x01" + one + two)
	wantAnswer(t, "Root", call{name: "Root"}.inState(s), answer{root: root})

	b := New()
	wantErr(t, "Put(the second)", b.Put(second), api.ErrOutboxIndex)
	wantErr(t, "Put(the first)", b.Put(first), api.OK)
	wantErr(t, "Put(the second)", b.Put(second), api.OK)
	for _, x := range []struct {
		call   call
		wanted answer
	}{
		{call{name: "Path", index: 0, size: 2}, answer{path: two}},
		{call{name: "Path", index: 0, size: 1}, answer{}},
		{call{name: "Path", index: 1, size: 1}, answer{code: api.ErrOutboxIndex}},
		{call{name: "Path", index: 0, size: 3}, answer{code: api.ErrOutboxSize}},
		{call{name: "Root", size: 3}, answer{code: api.ErrOutboxSize}},
		{call{name: "Root", size: 2}, answer{root: root}},
		{call{name: "Leaf", index: 2}, answer{code: api.ErrOutboxIndex}},
	} {
		wantAnswer(t, fmt.Sprint(x.call), x.call.inBook(b), x.wanted)
	}
	check := func(size int, path ...string) api.Errno {
		return Check(api.Digest([]byte(root)), size, first, digestsOf(path))
	}
	wantErr(t, "Check", check(2, two), api.OK)
	wantErr(t, "Check, the digest twice", check(2, two, two), api.ErrOutboxPath)
	wantErr(t, "Check, size 3", check(3, two), api.ErrOutboxPath)
	wantErr(t, "Check, size 0", check(0, two), api.ErrOutboxIndex)
	wantErr(t, "Cut(1)", b.Cut(1), api.OK)
	wantAnswer(t, "Len", call{name: "Len"}.inBook(b), answer{number: 1})
	wantErr(t, "Cut(2)", b.Cut(2), api.ErrOutboxSize)
}

func wantBytes(t testing.TB, l api.Leaf, text string, e api.Errno) {
	t.Helper()
	if b, f := Bytes(l); string(b) != text || f != e {
		t.Errorf("Bytes(%v): %x, %d, not %x, %d", l, b, f, text, e)
	}
}

func wantRead(t testing.TB, text string, l api.Leaf, e api.Errno) {
	t.Helper()
	if got, f := Read([]byte(text)); got != l || f != e {
		t.Errorf("Read(%x): %v, %d, not %v, %d", text, got, f, l, e)
	}
}

// edgeCounts are numbers that an Index and an Entry may be or not, and whether they may.
func edgeCounts() map[int]bool {
	return map[int]bool{
		math.MinInt: false, -full: false, -1: false, 0: true, 1: true, 255: true, 256: true, 1 << 32: true,
		full - 1: true, full: false, full + 1: false, 1 << 62: false, math.MaxInt: false,
	}
}

func edgeTokens() map[int]bool {
	return map[int]bool{math.MinInt: false, -1: false, 0: true, 1: true, 63: true, 64: false, 255: false, 256: false, 1 << 32: false, math.MaxInt: false}
}

func edgeAmounts() map[api.Wide]bool {
	return map[api.Wide]bool{{}: false, of(1): true, of(255): true, of(256): true, of(all): true, {0, 1}: true, {0, 0, 0, 1}: true, greatest(): true}
}

// All leaves of edges, those that may be and those that may not: Bytes, Read, Check, Put and Add.
func TestP11_1_Edges(t *testing.T) {
	for index, right1 := range edgeCounts() {
		for entry, right2 := range edgeCounts() {
			for token, right3 := range edgeTokens() {
				for amount, right4 := range edgeAmounts() {
					l := api.Leaf{Index: index, Entry: entry, Token: token, To: ann(), Amount: amount}
					if !right1 || !right2 || !right3 || !right4 {
						wantNoLeaf(t, l)
						continue
					}
					text := textOf(l)
					wantBytes(t, l, text, api.OK)
					wantRead(t, text, l, api.OK)
				}
			}
		}
	}
}

// wantNoLeaf: no call takes it.
func wantNoLeaf(t *testing.T, l api.Leaf) {
	t.Helper()
	if isLeaf(l) {
		t.Fatalf("%v may be", l)
	}
	wantBytes(t, l, "", api.ErrOutboxLeaf)
	wantErr(t, fmt.Sprint("Check of ", l), Check(api.Digest{}, -1, l, nil), api.ErrOutboxLeaf)
	wantErr(t, fmt.Sprint("Put of ", l), New().Put(l), api.ErrOutboxLeaf)
	if n, e := Add(stateOver(t, store.NewTable()), l); n != 0 || e != api.ErrOutboxLeaf {
		t.Errorf("Add of %v: %d, %d", l, n, e)
	}
}

func TestP11_1_AnyAddress(t *testing.T) {
	for _, to := range []api.Address{{}, ann(), {19: 1}, api.Address(bytes.Repeat([]byte{0xff}, 20))} {
		l := api.Leaf{Index: 7, To: to, Amount: of(1)}
		wantBytes(t, l, "L\x01\x07\x00\x00"+string(to[:])+"\x01\x01", api.OK)
		wantRead(t, "L\x01\x07\x00\x00"+string(to[:])+"\x01\x01", l, api.OK)
	}
}

// The longest leaf, and all leaves' bytes there and back.
func TestP11_1_Back(t *testing.T) {
	l := api.Leaf{Index: full - 1, Entry: full - 1, Token: 63, To: ann(), Amount: greatest()}
	if b, _ := Bytes(l); len(b) != 1+6+6+2+20+33 {
		t.Errorf("the longest leaf has %d bytes", len(b))
	}
	for i := range 300 {
		l := leafOf(i)
		wantBytes(t, l, textOf(l), api.OK)
		wantRead(t, textOf(l), l, api.OK)
	}
}

// someLeaves are leaves whose bytes are spoilt below.
func someLeaves() []api.Leaf {
	return []api.Leaf{
		{Amount: of(1)}, sample(), {Index: 1, Entry: 256, Token: 63, To: api.Address{19: 1}, Amount: greatest()},
		{Index: full - 1, Entry: full - 1, Amount: api.Wide{0, 1}},
	}
}

func wantReadAsSaid(t testing.TB, text string) {
	t.Helper()
	l, e := saidRead(text)
	wantRead(t, text, l, e)
}

func TestP11_1_ReadOfChangedBytes(t *testing.T) {
	for _, l := range someLeaves() {
		text := textOf(l)
		for i := range len(text) {
			wantRead(t, text[:i], api.Leaf{}, api.ErrOutboxLeaf)
			wantReadAsSaid(t, text[:i]+text[i+1:])
			for x := range 256 {
				wantReadAsSaid(t, text[:i]+string([]byte{byte(x)})+text[i+1:])
				wantReadAsSaid(t, text[:i]+string([]byte{byte(x)})+text[i:])
			}
		}
		for x := range 256 {
			wantRead(t, text+string([]byte{byte(x)}), api.Leaf{}, api.ErrOutboxLeaf)
			if x != 76 {
				wantRead(t, string([]byte{byte(x)})+text[1:], api.Leaf{}, api.ErrOutboxLeaf)
			}
		}
		wantRead(t, text+text, api.Leaf{}, api.ErrOutboxLeaf)
	}
	wantRead(t, "", api.Leaf{}, api.ErrOutboxLeaf)
	wantRead(t, "L", api.Leaf{}, api.ErrOutboxLeaf)
	wantRead(t, zeros(29), api.Leaf{}, api.ErrOutboxLeaf)
}

// Numbers that are not in their one form, numbers too great, and leaves that may not be.
func TestP11_1_ReadOfForms(t *testing.T) {
	to := zeros(20)
	right := []string{"L", "\x01\x02", "\x01\x05", "\x01\x03", to, "\x01\x09"}
	wantRead(t, joined(right), api.Leaf{Index: 2, Entry: 5, Token: 3, Amount: of(9)}, api.OK)
	great := "\x06\x01" + zeros(5) // 2^40
	for place, wrong := range map[int][]string{
		0: {"", "l", "K", "M", "\x00", "LL"},
		1: {"", "\x02\x00\x02", "\x01\x00", "\x09" + zeros(8) + "\x02", "\x08\x80" + zeros(7), "\x08" + strings.Repeat("\xff", 8), great, "\x08\x7f" + strings.Repeat("\xff", 7)},
		2: {"", "\x02\x00\x02", "\x01\x00", "\x09" + zeros(8) + "\x02", "\x08\x80" + zeros(7), "\x08" + strings.Repeat("\xff", 8), great, "\x08\x7f" + strings.Repeat("\xff", 7)},
		3: {"", "\x02\x00\x02", "\x01\x00", "\x01\x40", "\x01\xff", "\x02\x01\x03", great, "\x08\x80" + zeros(6) + "\x03"},
		4: {"", to[1:], to + "\x00"},
		5: {"", "\x00", "\x01\x00", "\x02\x00\x09", "\x20" + zeros(31) + "\x09", "\x21" + strings.Repeat("\xff", 33), "\x21\x00" + strings.Repeat("\xff", 32)},
	} {
		for _, piece := range wrong {
			text := joined(right[:place]) + piece + joined(right[place+1:])
			wantReadAsSaid(t, text)
			wantRead(t, text, api.Leaf{}, api.ErrOutboxLeaf)
		}
	}
	right[1], right[2], right[3], right[5] = "\x05"+strings.Repeat("\xff", 5), "\x05"+strings.Repeat("\xff", 5), "\x01\x3f", "\x20"+strings.Repeat("\xff", 32)
	wantRead(t, joined(right), api.Leaf{Index: full - 1, Entry: full - 1, Token: 63, Amount: greatest()}, api.OK)
}

func TestP11_1_ReadOfVeryManyBytes(t *testing.T) {
	text := textOf(sample())
	for _, n := range []int{1<<22 - len(text), 1<<22 - len(text) + 1, 1 << 23} {
		wantRead(t, text+zeros(n), api.Leaf{}, api.ErrOutboxLeaf)
	}
}

func TestR4_BytesAreNewMemory(t *testing.T) {
	one, _ := Bytes(sample())
	two, _ := Bytes(sample())
	for i := range one[:cap(one)] {
		one[:cap(one)][i] = 0xee
	}
	if string(two) != textOf(sample()) {
		t.Errorf("two answers share memory")
	}
	wantBytes(t, sample(), textOf(sample()), api.OK)
	roomy := append([]byte(textOf(sample())), 1, 2, 3)
	wantRead(t, string(roomy[:len(roomy)-3]), sample(), api.OK)
	if l, e := Read(roomy[:len(roomy)-3]); l != sample() || e != api.OK || string(roomy) != textOf(sample())+"\x01\x02\x03" {
		t.Errorf("Read: %v, %d, and the bytes are %x", l, e, roomy)
	}
}

// badBoxes are values that no outbox has.
func badBoxes() map[string]string {
	return map[string]string{
		"one byte": "\x01", "7 bytes": zeros(6) + "\x01", "8 bytes of nought": zeros(8), "a number alone": eightBytes(1), "9 bytes": eightBytes(1) + "\x01",
		"none of one digest": zeros(8) + ones(1), "a byte too few": (eightBytes(1) + ones(1))[:39], "a byte too many": eightBytes(1) + ones(1) + "\x00",
		"a digest too many": eightBytes(1) + ones(2), "a digest too few": eightBytes(3) + ones(1), "two for 2": eightBytes(2) + ones(2), "three for 3": eightBytes(3) + ones(3),
		"the number behind": ones(1) + eightBytes(1), "9 bytes for the number": "\x00" + eightBytes(1) + ones(1), "7 bytes for the number": eightBytes(1)[1:] + ones(1),
		"full + 1": eightBytes(full+1) + ones(2), "full + 1, one digest": eightBytes(full+1) + ones(1), "twice full": eightBytes(2*full) + ones(1),
		"2^62": eightBytes(1<<62) + ones(1), "2^63 - 1": eightBytes(1<<63-1) + ones(63), "2^63": eightBytes(1<<63) + ones(1), "2^63 + 1": eightBytes(1<<63+1) + ones(2),
		"2^63 + 1, one digest": eightBytes(1<<63+1) + ones(1), "2^64 - 1": eightBytes(all) + ones(64), "full, two digests": eightBytes(full) + ones(2), "full, none": eightBytes(full),
		"full - 1, 39 digests": eightBytes(full-1) + ones(39), "full - 1, 41 digests": eightBytes(full-1) + ones(41), "text": "outbox!!", "4096 bytes of nought": zeros(4096),
		"31 bytes behind": eightBytes(1) + ones(1)[:31], "33 bytes behind": eightBytes(1) + ones(1) + "\xff", "64 bytes alone": ones(2), "32 bytes alone": ones(1), "40 noughts": zeros(40),
	}
}

func TestP11_2_Forms(t *testing.T) {
	for what, value := range badBoxes() {
		for _, name := range stateCalls() {
			b := over(t, value, nil)
			for range 2 {
				b.wantRefused(t, what, call{name: name, leaf: sample()}, api.ErrStoreForm)
			}
			if !slices.Equal(b.source.asked, []string{"o"}) {
				t.Errorf("%s asked %q", name, b.source.asked)
			}
		}
	}
}

// popcount is how many bits are 1.
func popcount(n int) int {
	return strings.Count(big.NewInt(int64(n)).Text(2), "1")
}

// Outboxes of all sizes, whatever their digests are: what is told, and what one leaf more makes of it.
func TestP11_2_Sizes(t *testing.T) {
	for _, n := range []int{0, 1, 2, 3, 4, 5, 6, 7, 8, 100, 127, 128, 255, 256, 257, 65535, 65536, 1 << 32, 1<<32 - 1, 0x5555555555, 1 << 39, 1<<39 - 1, full - 3, full - 2, full - 1} {
		value := ""
		if n > 0 {
			value = inEight(n) + ones(popcount(n))
		}
		b := over(t, value, nil)
		wantAnswer(t, "Size", b.wantCall(t, "sizes", call{name: "Size"}), answer{number: n})
		b.wantCall(t, "sizes", call{name: "Root"})
		wantAnswer(t, "Add", b.wantCall(t, "sizes", call{name: "Add", leaf: sample()}), answer{number: n})
		wantAnswer(t, "Size", b.wantCall(t, "sizes", call{name: "Size"}), answer{number: n + 1})
		b.wantCall(t, "sizes", call{name: "Root"})
		if laid := changesOf(b.state)["o"][1]; len(laid) != 8+32*popcount(n+1) || laid[:8] != inEight(n+1) {
			t.Errorf("behind %d leaves and one more stand %d bytes, %x", n, len(laid), laid)
		}
	}
}

func TestP11_2_Full(t *testing.T) {
	b := over(t, inEight(full-1)+ones(40), nil)
	wantAnswer(t, "Add", b.wantCall(t, "the last", call{name: "Add", leaf: sample()}), answer{number: full - 1})
	b.wantRefused(t, "full", call{name: "Add", leaf: sample()}, api.ErrOutboxFull)
	wantAnswer(t, "Size", b.wantCall(t, "full", call{name: "Size"}), answer{number: full})
	b = over(t, inEight(full)+ones(1), nil)
	b.wantRefused(t, "full", call{name: "Add", leaf: sample()}, api.ErrOutboxFull)
	wantAnswer(t, "Size", b.wantCall(t, "full", call{name: "Size"}), answer{number: full})
	wantAnswer(t, "Root", b.wantCall(t, "full", call{name: "Root"}), answer{root: ones(1)})
	b.wantRefused(t, "full, and no leaf", call{name: "Add", leaf: at(1, sample())}, api.ErrOutboxLeaf)
	b.wantRefused(t, "full, and no leaf", call{name: "Add"}, api.ErrOutboxLeaf)
}

// Add takes a leaf without an index alone.
func TestP11_2_AddWithAnIndex(t *testing.T) {
	for _, index := range []int{math.MinInt, -1, 1, 2, 3, full - 1, full, math.MaxInt} {
		b := over(t, inEight(3)+ones(2), nil)
		b.wantRefused(t, "an index", call{name: "Add", leaf: at(index, sample())}, api.ErrOutboxLeaf)
		if len(b.source.asked) != 0 {
			t.Errorf("Add with the index %d asked %q", index, b.source.asked)
		}
	}
}

func TestP11_2_AddOfWhatMayNotBe(t *testing.T) {
	for _, l := range []api.Leaf{{}, {Entry: -1, Amount: of(1)}, {Entry: full, Amount: of(1)}, {Token: -1, Amount: of(1)}, {Token: 64, Amount: of(1)}, {Entry: 1, Token: 2, To: ann()}} {
		for _, value := range []string{"", "?", inEight(3) + ones(2), inEight(full) + ones(1)} {
			b := over(t, value, map[string]api.Errno{"o": api.ErrStoreMissing})
			b.wantRefused(t, "no leaf", call{name: "Add", leaf: l}, api.ErrOutboxLeaf)
			if len(b.source.asked) != 0 {
				t.Errorf("Add of %v asked %q", l, b.source.asked)
			}
		}
	}
}

// What a source refuses goes up with its number, and is not kept; nothing is laid.
func TestP11_2_SourceRefuses(t *testing.T) {
	for _, refusal := range []api.Errno{api.ErrArg, api.ErrTreeFront, api.ErrStoreMissing, api.ErrStoreForm, api.ErrOutboxFull, 9999, -1} {
		for _, name := range stateCalls() {
			refuses := map[string]api.Errno{"o": refusal}
			b := over(t, inEight(3)+ones(2), refuses)
			for range 2 {
				b.wantRefused(t, "refused", call{name: name, leaf: sample()}, refusal)
			}
			if len(b.state.Touched()) != 0 || !slices.Equal(b.source.asked, []string{"o", "o"}) {
				t.Errorf("%s touched %q and asked %q", name, b.state.Touched(), b.source.asked)
			}
			clear(refuses)
			if got := b.wantCall(t, "told at last", call{name: name, leaf: sample()}); got.code != api.OK {
				t.Errorf("%s, told at last: %d", name, got.code)
			}
		}
	}
	for _, name := range stateCalls() {
		over(t, zeros(4097), nil).wantRefused(t, "too long for the store", call{name: name, leaf: sample()}, api.ErrStoreValue)
	}
}

// The key o alone is asked and laid.
func TestP11_2_WhichKeys(t *testing.T) {
	refuses := map[string]api.Errno{}
	for _, key := range []string{"a", "ne", "nt", "np", "t\x03", "O", "oo", "o\x00", "o" + zeros(8), "L"} {
		refuses[key] = api.ErrStoreMissing
	}
	for _, value := range []string{"", inEight(3) + ones(2)} {
		for _, name := range stateCalls() {
			b := over(t, value, refuses)
			b.wantCall(t, "which keys", call{name: name, leaf: sample()})
			if !slices.Equal(b.source.asked, []string{"o"}) || !slices.Equal(b.state.Touched(), []string{"o"}) {
				t.Errorf("%s asked %q and touched %q", name, b.source.asked, b.state.Touched())
			}
			if laid := len(b.state.Changes()); laid > 1 || name != "Add" && laid > 0 {
				t.Errorf("%s laid at %d keys", name, laid)
			}
		}
	}
}

// What stands in the state counts, whoever laid it.
func TestP11_2_WhatStandsInTheState(t *testing.T) {
	s := stateOver(t, store.NewTable())
	s.Put("o", []byte(inEight(2)+ones(1)))
	wantAnswer(t, "Add", call{name: "Add", leaf: sample()}.inState(s), answer{number: 2})
	s.Put("o", []byte("?"))
	for _, name := range stateCalls() {
		wantAnswer(t, name, call{name: name, leaf: sample()}.inState(s), answer{code: api.ErrStoreForm})
	}
	s.Put("o", nil)
	wantAnswer(t, "Root", call{name: "Root"}.inState(s), answer{root: sha("")})
	wantAnswer(t, "Add", call{name: "Add", leaf: sample()}.inState(s), answer{})
}

// Where two errors apply, the one that the row names first.
func TestP11_2_WhichErrorFirst(t *testing.T) {
	missing := map[string]api.Errno{"o": api.ErrStoreMissing}
	for _, x := range []struct {
		what    string
		value   string
		refuses map[string]api.Errno
		leaf    api.Leaf
		wanted  api.Errno
	}{
		{"no leaf, missing", "", missing, at(1, sample()), 110},
		{"no leaf, no form", "?", nil, api.Leaf{}, 110},
		{"no leaf, full", inEight(full) + ones(1), nil, at(full, sample()), 110},
		{"missing, no form", "?", missing, sample(), 74},
		{"missing, full", inEight(full) + ones(1), missing, sample(), 74},
		{"no form, full", inEight(full) + ones(2), nil, sample(), 75},
		{"too long, no form", zeros(4097), nil, sample(), 71},
	} {
		over(t, x.value, x.refuses).wantRefused(t, x.what, call{name: "Add", leaf: x.leaf}, x.wanted)
	}
}

// A leaf that is handed in as number 0 counts under the index that it is given.
func TestP11_2_TheLeafHasItsIndex(t *testing.T) {
	s := stateOver(t, store.NewTable())
	for i := range 3 {
		wantAnswer(t, "Add", call{name: "Add", leaf: sample()}.inState(s), answer{number: i})
	}
	texts := []string{textOf(sample()), textOf(at(1, sample())), textOf(at(2, sample()))}
	wantAnswer(t, "Root", call{name: "Root"}.inState(s), answer{root: hash(sha).root(texts)})
}

func wantCheck(t testing.TB, what string, root string, size int, l api.Leaf, path []string, wanted api.Errno) {
	t.Helper()
	wantErr(t, what+", by the words", hash(sha).saidCheck(root, size, l, path), wanted)
	wantErr(t, what, Check(api.Digest([]byte(root)), size, l, digestsOf(path)), wanted)
}

func TestP11_3_Sizes(t *testing.T) {
	texts := leavesOf(5).texts(5)
	root, path := hash(sha).root(texts), hash(sha).path(texts, 2)
	for size, wanted := range map[int]api.Errno{
		math.MinInt: 112, -1: 112, 0: 111, 1: 111, 2: 111, 3: 113, 4: 113, 5: 0, 9: 113, full - 1: 113, full: 113, full + 1: 112, 1 << 62: 112, math.MaxInt: 112,
	} {
		wantCheck(t, fmt.Sprint("size ", size), root, size, leafOf(2), path, wanted)
		if wanted == 0 {
			wanted = 113
		}
		wantCheck(t, fmt.Sprint("size ", size, ", no path"), root, size, leafOf(2), nil, wanted)
	}
}

func TestP11_3_Index(t *testing.T) {
	texts := leavesOf(9).texts(9)
	root := hash(sha).root(texts)
	for index := range 12 {
		path := hash(sha).path(texts, min(index, 8))
		wanted := api.OK
		if index >= 9 {
			wanted = api.ErrOutboxIndex
		}
		wantCheck(t, fmt.Sprint("index ", index), root, 9, leafOf(index), path, wanted)
		if index > 0 && index <= 9 {
			wantCheck(t, fmt.Sprint("the index ahead of ", index), root, 9, at(index-1, leafOf(index)), path, api.ErrOutboxPath)
		}
	}
	for _, index := range []int{9, 10, full - 1} {
		wantCheck(t, "beyond the size", root, 9, at(index, sample()), nil, api.ErrOutboxIndex)
	}
	for _, index := range []int{-1, full} {
		wantCheck(t, "no index", root, 9, at(index, sample()), nil, api.ErrOutboxLeaf)
		wantCheck(t, "no index, no size", root, -1, at(index, sample()), nil, api.ErrOutboxLeaf)
	}
	wantCheck(t, "no size, beyond it", root, full+1, at(full-1, sample()), nil, api.ErrOutboxSize)
}

// The greatest outbox: the path of its first and its last leaf, and some between.
func TestP11_3_Greatest(t *testing.T) {
	for _, size := range []int{full, full - 1, 1<<39 + 1, 0x5555555555} {
		for _, index := range []int{0, 1, size / 2, size - 2, size - 1} {
			l := at(index, sample())
			var path []string
			root, fits := hash(sha).climb(size, index, textOf(l), path)
			for !fits {
				path = append(path, sha(fmt.Sprint(len(path))))
				root, fits = hash(sha).climb(size, index, textOf(l), path)
			}
			wantCheck(t, "the path", root, size, l, path, api.OK)
			for _, other := range changed(path) {
				wantCheck(t, "a changed path", root, size, l, other, api.ErrOutboxPath)
			}
		}
	}
}

// changed are lists that are not the given one: a digest changed at each place, one left away, one more, two in each other's place.
func changed(path []string) [][]string {
	var all [][]string
	for i, d := range path {
		other := slices.Clone(path)
		other[i] = d[:i%32] + string([]byte{d[i%32] ^ 1}) + d[i%32+1:]
		all = append(all, other, slices.Delete(slices.Clone(path), i, i+1), slices.Insert(slices.Clone(path), i, d))
		if i > 0 {
			other = slices.Clone(path)
			other[i], other[i-1] = other[i-1], other[i]
			all = append(all, other)
		}
	}
	return append(all, append(slices.Clone(path), zeros(32)), append([]string{zeros(32)}, path...))
}

func TestP11_3_Paths(t *testing.T) {
	for n := 1; n <= 20; n++ {
		texts := leavesOf(n).texts(n)
		root := hash(sha).root(texts)
		for i := range n {
			path := hash(sha).path(texts, i)
			wantCheck(t, "the path", root, n, leafOf(i), path, api.OK)
			for _, other := range changed(path) {
				wantCheck(t, "a changed path", root, n, leafOf(i), other, api.ErrOutboxPath)
			}
			if len(path) > 0 {
				wantCheck(t, "no path", root, n, leafOf(i), nil, api.ErrOutboxPath)
			}
			wantCheck(t, "another root", zeros(32), n, leafOf(i), path, api.ErrOutboxPath)
			for _, l := range others(leafOf(i)) {
				wantCheck(t, "another leaf", root, n, l, path, api.ErrOutboxPath)
			}
		}
	}
}

// others are leaves with the same index that are unlike a given one in one field.
func others(l api.Leaf) []api.Leaf {
	entry, token, to, amount := l, l, l, l
	entry.Entry ^= 1
	token.Token ^= 1
	to.To[19] ^= 1
	amount.Amount[3] ^= 1 << 63
	return []api.Leaf{entry, token, to, amount}
}

// Nil and empty paths are one, and a path that is handed in is not written into, its room neither.
func TestR4_PathsAreNotKept(t *testing.T) {
	b := bookOf(t, leavesOf(7))
	root, _ := b.Root(7)
	path, _ := b.Path(2, 7)
	room := append(slices.Clone(path), api.Digest{1}, api.Digest{2})
	was := slices.Clone(room)
	wantErr(t, "Check", Check(root, 7, leafOf(2), room[:len(path)]), api.OK)
	wantErr(t, "Check", Check(root, 7, leafOf(2), room), api.ErrOutboxPath)
	if !slices.Equal(room, was) {
		t.Errorf("the path, or its spare room, was written into")
	}
	first, _ := b.Root(1)
	wantErr(t, "Check of no path", Check(first, 1, leafOf(0), nil), api.OK)
	wantErr(t, "Check of an empty path", Check(first, 1, leafOf(0), []api.Digest{}), api.OK)
}

func TestP11_4_New(t *testing.T) {
	b, said := New(), &saidBook{}
	for _, name := range bookCalls() {
		for _, n := range []int{-1, 0, 1} {
			for _, size := range []int{-1, 0, 1} {
				wantInBook(t, "a new book", b, said, call{name: name, leaf: at(7, sample()), index: n, size: size})
			}
		}
	}
	if root, e := b.Root(0); root != sha256.Sum256(nil) || e != api.OK {
		t.Errorf("the root of no leaves: %x, %d", root, e)
	}
}

func TestP11_4_PutOfTheNextAlone(t *testing.T) {
	b := New()
	for n := range 40 {
		for _, index := range []int{-1, 0, n - 2, n - 1, n + 1, n + 2, full - 1, full} {
			if index == n {
				continue
			}
			wanted := api.ErrOutboxIndex
			if index < 0 || index >= full {
				wanted = api.ErrOutboxLeaf
			}
			wantErr(t, fmt.Sprint("Put of ", index, " to ", n), b.Put(at(index, sample())), wanted)
		}
		wantErr(t, "Put of no leaf, and not the next", b.Put(api.Leaf{Index: n + 1}), api.ErrOutboxLeaf)
		wantErr(t, "Put of no leaf", b.Put(api.Leaf{Index: n}), api.ErrOutboxLeaf)
		if b.Len() != n {
			t.Fatalf("refused leaves were put: %d, not %d", b.Len(), n)
		}
		wantErr(t, "Put of the next", b.Put(leafOf(n)), api.OK)
	}
	for n := range 40 {
		wantAnswer(t, "Leaf", call{name: "Leaf", index: n}.inBook(b), answer{leaf: leafOf(n)})
	}
}

// edges are numbers around what a book of n leaves has.
func edges(n int) []int {
	return []int{math.MinInt, -1, 0, 1, n / 2, n - 2, n - 1, n, n + 1, n + 2, full, math.MaxInt}
}

func TestP11_4And5_Edges(t *testing.T) {
	for _, n := range []int{0, 1, 2, 3, 4, 5, 8, 9, 31, 33} {
		b, said := bookOf(t, leavesOf(n)), leavesOf(n)
		for _, x := range edges(n) {
			wantInBook(t, "edges", b, &said, call{name: "Len"})
			wantInBook(t, "edges", b, &said, call{name: "Leaf", index: x})
			wantInBook(t, "edges", b, &said, call{name: "Root", size: x})
			for _, y := range edges(n) {
				wantInBook(t, "edges", b, &said, call{name: "Path", index: y, size: x})
			}
			for _, y := range edges(max(0, min(x, n))) {
				wantInBook(t, "edges", b, &said, call{name: "Path", index: y, size: x})
			}
			cut, saidCut := bookOf(t, leavesOf(n)), leavesOf(n)
			wantInBook(t, "edges", cut, &saidCut, call{name: "Cut", size: x})
			wantSame(t, "behind Cut", cut, saidCut)
		}
	}
}

// wantSame holds all that a book tells against the words.
func wantSame(t testing.TB, what string, b *Book, said saidBook) {
	t.Helper()
	wantInBook(t, what, b, &said, call{name: "Len"})
	for n := -1; n <= len(said)+1; n++ {
		wantInBook(t, what, b, &said, call{name: "Leaf", index: n})
		wantInBook(t, what, b, &said, call{name: "Root", size: n})
	}
	for index := -1; index <= len(said); index++ {
		wantInBook(t, what, b, &said, call{name: "Path", index: index, size: len(said)})
	}
}

// Which error comes first: the size's.
func TestP11_5_WhichErrorFirst(t *testing.T) {
	b := bookOf(t, leavesOf(3))
	for _, size := range []int{-1, 4} {
		for _, index := range []int{-1, 0, 3, 4} {
			wantAnswer(t, "Path", call{name: "Path", index: index, size: size}.inBook(b), answer{code: api.ErrOutboxSize})
		}
	}
	for _, index := range []int{-1, 0, 1} {
		wantAnswer(t, "Path", call{name: "Path", index: index, size: 0}.inBook(b), answer{code: api.ErrOutboxIndex})
	}
}

// What is answered is the caller's: whatever is written into it, its spare room too, the book tells the same.
func TestR4_WhatIsAnsweredIsTheCallers(t *testing.T) {
	b, said := bookOf(t, leavesOf(11)), leavesOf(11)
	for size := range 12 {
		for index := range size {
			one, _ := b.Path(index, size)
			two, _ := b.Path(index, size)
			was := slices.Clone(two)
			for i := range one[:cap(one)] {
				one[:cap(one)][i] = api.Digest{0xee}
			}
			if !slices.Equal(two, was) {
				t.Errorf("two paths share memory")
			}
		}
	}
	wantSame(t, "behind writing into paths", b, said)
	text, _ := Bytes(leafOf(0))
	clear(text)
	wantSame(t, "behind writing into bytes", b, said)
}

func TestR1_NilBook(t *testing.T) {
	var b *Book
	for _, name := range bookCalls() {
		if name != "Len" {
			wantAnswer(t, name+" of no book", call{name: name, leaf: sample(), size: -1, index: -1}.inBook(b), answer{code: api.ErrArg})
		}
	}
}
