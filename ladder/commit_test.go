package ladder

import (
	"bytes"
	"fmt"
	"math"
	"slices"
	"testing"

	"causeway/api"
)

// counts are those at which something could turn, and whether a commit may have them.
func counts() []struct {
	n     int
	mayBe bool
} {
	return []struct {
		n     int
		mayBe bool
	}{
		{math.MinInt, false}, {math.MinInt + 1, false}, {-1 << 40, false}, {-2, false}, {-1, false},
		{0, true}, {1, true}, {127, true}, {128, true}, {255, true}, {256, true}, {65535, true}, {65536, true}, {1<<32 - 1, true}, {1 << 32, true},
		{full - 1, true}, {full, true},
		{full + 1, false}, {1 << 41, false}, {1<<62 - 1, false}, {1 << 62, false}, {math.MaxInt - 1, false}, {math.MaxInt, false},
	}
}

// digestOf is one whose bytes are all others.
func digestOf(n byte) api.Digest {
	var d api.Digest
	for i := range d {
		d[i] = n + byte(i)*7
	}
	return d
}

// wantBytes asks Bytes, and the words.
func wantBytes(t testing.TB, c api.Commit, wanted []byte, wantedE int) {
	t.Helper()
	if b, e := Bytes(c); !bytes.Equal(b, wanted) || int(e) != wantedE {
		t.Errorf("Bytes(%+v): %v, %d, not %v, %d", c, b, int(e), wanted, wantedE)
	}
	if b, e := sayBytes(c); !bytes.Equal(b, wanted) || int(e) != wantedE {
		t.Errorf("by the words Bytes(%+v) is %v, %d, not %v, %d", c, b, int(e), wanted, wantedE)
	}
}

// wantRead asks Read, and the words.
func wantRead(t testing.TB, what string, b []byte, wanted api.Commit, wantedE int) {
	t.Helper()
	if c, e := Read(b); c != wanted || int(e) != wantedE {
		t.Errorf("%s: Read(%v): %+v, %d, not %+v, %d", what, b, c, int(e), wanted, wantedE)
	}
	if c, e := sayRead(b); c != wanted || int(e) != wantedE {
		t.Errorf("%s: by the words Read(%v) is %+v, %d, not %+v, %d", what, b, c, int(e), wanted, wantedE)
	}
}

// laid is the bytes of an assertion, with its numbers' bytes as they are handed in.
func laid(first byte, count []byte, state, outbox api.Digest, leaves []byte) []byte {
	return slices.Concat([]byte{first}, count, state[:], outbox[:], leaves)
}

func TestP16_1_BytesOfOrdinaryOnes(t *testing.T) {
	one, two := digestOf(1), digestOf(200)
	for _, x := range []struct {
		c             api.Commit
		count, leaves []byte
		state, outbox api.Digest
	}{
		{api.Commit{}, []byte{0}, []byte{0}, api.Digest{}, api.Digest{}},
		{api.Commit{Count: 1}, []byte{1, 1}, []byte{0}, api.Digest{}, api.Digest{}},
		{api.Commit{Leaves: 1}, []byte{0}, []byte{1, 1}, api.Digest{}, api.Digest{}},
		{api.Commit{Count: 256, State: one, Outbox: two, Leaves: 255}, []byte{2, 1, 0}, []byte{1, 255}, one, two},
		{api.Commit{Count: 70000, State: two, Outbox: one, Leaves: 7}, []byte{3, 1, 17, 112}, []byte{1, 7}, two, one},
		{api.Commit{Count: full, State: one, Outbox: one, Leaves: full}, []byte{6, 1, 0, 0, 0, 0, 0}, []byte{6, 1, 0, 0, 0, 0, 0}, one, one},
		{api.Commit{Count: full - 1, Leaves: full - 1}, []byte{5, 255, 255, 255, 255, 255}, []byte{5, 255, 255, 255, 255, 255}, api.Digest{}, api.Digest{}},
	} {
		wanted := laid(65, x.count, x.state, x.outbox, x.leaves)
		wantBytes(t, x.c, wanted, 0)
		wantRead(t, "back", wanted, x.c, 0)
	}
}

func TestP16_1_BytesAtTheEdges(t *testing.T) {
	for _, count := range counts() {
		for _, leaves := range counts() {
			c := api.Commit{Count: count.n, State: digestOf(3), Outbox: digestOf(4), Leaves: leaves.n}
			b, e := Bytes(c)
			if !count.mayBe || !leaves.mayBe {
				wantBytes(t, c, nil, 160)
				if b != nil {
					t.Errorf("Bytes(%+v) is refused, and yet there are bytes: %v", c, b)
				}
				continue
			}
			wanted, _ := sayBytes(c)
			if !bytes.Equal(b, wanted) || e != 0 {
				t.Errorf("Bytes(%+v): %v, %d", c, b, int(e))
			}
			wantRead(t, "back", b, c, 0)
		}
	}
}

// ordinary are bytes of commits, with numbers of several lengths.
func ordinary() [][]byte {
	var l [][]byte
	for _, c := range []api.Commit{
		{}, {Count: 1}, {Leaves: 9}, {Count: 300, State: digestOf(1), Outbox: digestOf(2), Leaves: 70000},
		{Count: full, State: digestOf(9), Outbox: digestOf(8), Leaves: full}, {Count: full - 1, State: digestOf(65), Leaves: 1},
	} {
		b, _ := sayBytes(c)
		l = append(l, b)
	}
	return l
}

func TestP16_1_ReadOfNothingOfLessAndOfMore(t *testing.T) {
	wantRead(t, "nil", nil, api.Commit{}, 160)
	wantRead(t, "empty", []byte{}, api.Commit{}, 160)
	for _, b := range ordinary() {
		for n := range len(b) {
			wantRead(t, fmt.Sprint("the first ", n), b[:n], api.Commit{}, 160)
			if n > 0 {
				wantRead(t, fmt.Sprint("without the first ", n), b[n:], api.Commit{}, 160)
			}
		}
		for i := range 256 {
			wantRead(t, fmt.Sprint("and ", i), append(slices.Clone(b), byte(i)), api.Commit{}, 160)
			wantRead(t, fmt.Sprint(i, " ahead"), append([]byte{byte(i)}, b...), api.Commit{}, 160)
		}
		wantRead(t, "twice", slices.Concat(b, b), api.Commit{}, 160)
		wantRead(t, "and very many", append(slices.Clone(b), make([]byte, 1<<22)...)[:1<<22], api.Commit{}, 160)
	}
	wantRead(t, "too many bytes", make([]byte, 1<<22+1), api.Commit{}, 160)
}

// Every byte changed to every other one: what is read then is what is told by the words, and another one than before.
func TestP16_1_ReadOfEveryByteChanged(t *testing.T) {
	for _, b := range ordinary() {
		was, _ := sayRead(b)
		read := 0
		for i := range b {
			for to := range 256 {
				if byte(to) == b[i] {
					continue
				}
				turned := slices.Clone(b)
				turned[i] = byte(to)
				wanted, wantedE := sayRead(turned)
				if c, e := Read(turned); c != wanted || e != wantedE || c == was && e == 0 {
					t.Fatalf("byte %d is %d: %+v, %d, not %+v, %d", i, to, c, int(e), wanted, int(wantedE))
				}
				if wantedE == 0 {
					read++
				}
			}
		}
		if read < 64*255 { // the digests may be any
			t.Errorf("only %d changes were read", read)
		}
	}
}

func TestP16_1_ReadOfOtherFirstBytes(t *testing.T) {
	for _, b := range ordinary() {
		for first := range 256 {
			if first != 65 {
				wantRead(t, fmt.Sprint("the first byte ", first), append([]byte{byte(first)}, b[1:]...), api.Commit{}, 160)
			}
		}
	}
}

// Numbers in another form: with noughts ahead, with other lengths, above MaxCount, above what a number can be.
func TestP16_1_ReadOfNumbersInAnotherForm(t *testing.T) {
	good := []byte{1, 5}
	for _, bad := range [][]byte{
		{1, 0}, {2, 0, 5}, {8, 0, 0, 0, 0, 0, 0, 0, 5}, {2, 0, 0}, {9, 0, 0, 0, 0, 0, 0, 0, 0, 5},
		{6, 1, 0, 0, 0, 0, 1}, {6, 2, 0, 0, 0, 0, 0}, {7, 1, 0, 0, 0, 0, 0, 0}, {8, 1, 0, 0, 0, 0, 0, 0, 0},
		{8, 127, 255, 255, 255, 255, 255, 255, 255}, {8, 128, 0, 0, 0, 0, 0, 0, 0}, {8, 128, 0, 0, 0, 0, 0, 0, 5}, {8, 255, 255, 255, 255, 255, 255, 255, 255},
		{9, 1, 0, 0, 0, 0, 0, 0, 0, 0}, {9, 1, 0, 0, 0, 0, 0, 0, 0, 5}, {255, 5}, {2, 5}, {0, 5},
	} {
		wantRead(t, fmt.Sprint("the Count ", bad), laid(65, bad, digestOf(1), digestOf(2), good), api.Commit{}, 160)
		wantRead(t, fmt.Sprint("the Leaves ", bad), laid(65, good, digestOf(1), digestOf(2), bad), api.Commit{}, 160)
		wantRead(t, fmt.Sprint("both ", bad), laid(65, bad, digestOf(1), digestOf(2), bad), api.Commit{}, 160)
	}
	wantRead(t, "both in their form", laid(65, good, digestOf(1), digestOf(2), good), api.Commit{Count: 5, State: digestOf(1), Outbox: digestOf(2), Leaves: 5}, 0)
}

// Two unlike commits have unlike bytes, and none's are the beginning of another one's.
func TestP16_1_OneForm(t *testing.T) {
	var all [][]byte
	for _, count := range []int{0, 1, 255, 256, full} {
		for _, leaves := range []int{0, 1, 255, 256, full} {
			for _, d := range []api.Digest{{}, digestOf(1)} {
				for _, o := range []api.Digest{{}, digestOf(1)} {
					b, _ := Bytes(api.Commit{Count: count, State: d, Outbox: o, Leaves: leaves})
					all = append(all, b)
				}
			}
		}
	}
	for i, a := range all {
		for j, b := range all {
			if i != j && bytes.HasPrefix(a, b) {
				t.Errorf("%v begins with %v", a, b)
			}
		}
	}
}

// What Bytes answers is new memory, and Read turns nothing of what it is handed.
func TestR4_BytesAndRead(t *testing.T) {
	c := api.Commit{Count: 300, State: digestOf(1), Outbox: digestOf(2), Leaves: 70000}
	wanted, _ := sayBytes(c)
	one, _ := Bytes(c)
	two, _ := Bytes(c)
	room := one[:cap(one)]
	for i := range room {
		room[i] = 9
	}
	if !bytes.Equal(two, wanted) {
		t.Errorf("two answers share memory: %v", two)
	}
	wantBytes(t, c, wanted, 0)

	handed := append(make([]byte, 0, 200), wanted...)
	copy(handed[len(handed):cap(handed)], "room")
	for _, n := range []int{len(handed), len(handed) - 1} {
		Read(handed[:n])
		if !bytes.Equal(handed, wanted) || string(handed[len(handed):cap(handed)][:4]) != "room" {
			t.Errorf("Read has turned what it was handed: %v", handed)
		}
	}
}

func FuzzReadAgainstTheWords(f *testing.F) {
	for _, b := range ordinary() {
		f.Add(b)
	}
	f.Fuzz(func(t *testing.T, b []byte) {
		c, e := Read(b)
		if wanted, wantedE := sayRead(b); c != wanted || e != wantedE {
			t.Errorf("Read(%v): %+v, %d, not %+v, %d", b, c, int(e), wanted, int(wantedE))
		}
		if again, e2 := Bytes(c); e == 0 && (e2 != 0 || !bytes.Equal(again, b)) {
			t.Errorf("Read(%v) is written as %v, %d", b, again, int(e2))
		}
	})
}
