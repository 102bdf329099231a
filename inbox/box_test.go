package inbox

import (
	"bytes"
	"fmt"
	"slices"
	"sync"
	"testing"

	"causeway/api"
)

// wantFork asks both boxes, and the words.
func wantFork(t testing.TB, what string, a, b both, wanted int) {
	t.Helper()
	if got, words := a.box.Fork(b.box), a.said.fork(b.said); got != wanted || words != wanted {
		t.Errorf("%s: Fork is %d, by the words %d, not %d", what, got, words, wanted)
	}
	if got := b.box.Fork(a.box); got != wanted {
		t.Errorf("%s: Fork the other way round is %d, not %d", what, got, wanted)
	}
}

func TestP15_5_ItselfAndNone(t *testing.T) {
	l := ordinary()
	for n := range len(l) + 1 {
		b := given(t, l[:n]...)
		wantFork(t, "itself", b, b, n)
		wantFork(t, "a copy", b, b.copied(), n)
		wantFork(t, "another one with the same", b, given(t, l[:n]...), n)
		wantFork(t, "an empty one", b, newBoth(), 0)
		if got := b.box.Fork(nil); got != 0 {
			t.Errorf("Fork(nil) of %d: %d", n, got)
		}
		b.wantTold(t, "asking turns nothing")
	}
}

func TestP15_5_OneBeginsTheOther(t *testing.T) {
	l := ordinary()
	for n := range len(l) + 1 {
		for m := range n + 1 {
			wantFork(t, fmt.Sprint("of ", n, " and ", m), given(t, l[:n]...), given(t, l[:m]...), m)
		}
	}
}

// rowWith is the ordinary entries at one Time, with one in place of the one at i.
func rowWith(i int, e api.Entry) []api.Entry {
	l := ordinary()
	for j := range l {
		l[j].Time = 5
	}
	l[i] = e
	for j := i; j < len(l); j++ { // a later Time goes on
		l[j].Time = max(l[j].Time, e.Time)
	}
	return l
}

// Two boxes part at an entry that differs in one field or one sign alone: at the first, in the middle and at the last one.
func TestP15_5_Parting(t *testing.T) {
	for i := range len(ordinary()) {
		for _, e := range []api.Entry{depositAt(5), callAt(5), letterAt(5, long(4095)...), letterAt(5)} {
			one := given(t, rowWith(i, e)...)
			for _, n := range unlike(e) {
				two := given(t, rowWith(i, n.entry)...)
				wantFork(t, fmt.Sprint("at ", i, ", ", n.what), one, two, i)
			}
			wantFork(t, "all alike", one, given(t, rowWith(i, own(e))...), len(ordinary()))
		}
	}
}

// What stands behind the place where two part says nothing, even where it is alike again.
func TestP15_5_AlikeAgainBehind(t *testing.T) {
	a, b := letterAt(5, 1), letterAt(5, 2)
	for _, row := range []struct {
		one, two []api.Entry
		wanted   int
	}{
		{[]api.Entry{a, b, a}, []api.Entry{b, b, a}, 0},
		{[]api.Entry{a, b, a}, []api.Entry{a, a, a}, 1},
		{[]api.Entry{a, b, a, a}, []api.Entry{a, b, b}, 2},
		{[]api.Entry{a, b}, []api.Entry{b, a}, 0},
		{[]api.Entry{a, a, a}, []api.Entry{a, a, a, a}, 3},
		{[]api.Entry{b}, []api.Entry{a, b}, 0},
	} {
		wantFork(t, "alike again", given(t, row.one...), given(t, row.two...), row.wanted)
	}
}

// It is the entries that are held against each other: links that are the same by chance (here by force) say nothing.
func TestP15_5_NotByLinks(t *testing.T) {
	one, two := given(t, letterAt(5, 1), letterAt(5, 2), letterAt(5, 3)), given(t, letterAt(5, 1), letterAt(5, 9), letterAt(5, 3))
	two.box.rows[1].link, two.box.rows[2].link = one.box.rows[1].link, one.box.rows[2].link
	wantFork(t, "unlike entries, the same links", one, two, 1)
	same := given(t, letterAt(5, 1), letterAt(5, 2), letterAt(5, 3))
	same.box.rows[1].link = api.Digest{1}
	wantFork(t, "entries alike, other links", one, same, 3)
}

// roomy is a box of so many entries whose list has room, or has none.
func roomy(t testing.TB, n int, room bool) both {
	b := newBoth()
	for i := range n {
		b.said.add(letterAt(i/2, byte(i)))
		if k, e := b.box.Add(letterAt(i/2, byte(i))); k != i || e != api.OK {
			t.Fatalf("Add: %d, %d", k, int(e))
		}
	}
	if room {
		b.box.rows = slices.Grow(b.box.rows, 5)
	} else {
		b.box.rows = slices.Clip(b.box.rows)
	}
	return b
}

func TestP15_6_CopyHasTheSame(t *testing.T) {
	newBoth().copied().wantTold(t, "a copy of an empty one")
	for n := range 20 {
		for _, room := range []bool{false, true} {
			b := roomy(t, n, room)
			b.copied().wantTold(t, fmt.Sprint("a copy of ", n))
			b.wantTold(t, fmt.Sprint(n, ", behind a copy"))
		}
	}
}

// What is added to the one, to the other and to both behind a copy is not seen in the other, whether the list has room or not.
func TestP15_6_WhatBecomesOfOneIsNotSeenInTheOther(t *testing.T) {
	for _, n := range []int{0, 1, 2, 3, 4, 5, 7, 8, 9, 16, 17} {
		for _, room := range []bool{false, true} {
			for _, script := range []string{"1", "2", "12", "21", "11", "22", "1122", "2211", "121212", "212121", "111111112", "222222221"} {
				one := roomy(t, n, room)
				pair := []both{one, one.copied()}
				for i, which := range []byte(script) {
					at := int(which - '1')
					what := fmt.Sprint("of ", n, ", room ", room, ", script ", script, ", step ", i)
					pair[at].want(t, what, letterAt(100, byte(at), byte(i)), pair[at].box.Len(), 0)
					pair[1-at].wantTold(t, what+", the other one")
					pair[1-at].add(t, what+", refused", letterAt(-1))
					pair[at].wantTold(t, what+", behind a refusal in the other one")
				}
				wantFork(t, "script "+script, pair[0], pair[1], n)
			}
		}
	}
}

// Copies of copies, each with an entry more than the one that it was made of, and all of them go on.
func TestP15_6_CopiesOfCopies(t *testing.T) {
	for _, room := range []bool{false, true} {
		boxes := []both{roomy(t, 4, room)}
		for i := range 12 {
			next := boxes[i].copied()
			next.want(t, fmt.Sprint("copy ", i+1), letterAt(50, byte(i)), 4+i, 0)
			boxes = append(boxes, next)
		}
		for i, b := range boxes {
			b.wantTold(t, fmt.Sprint("box ", i))
			b.want(t, "on", letterAt(60, byte(i), 1), 4+i, 0)
		}
		for i, b := range boxes {
			b.wantTold(t, fmt.Sprint("at last, box ", i))
			for j, other := range boxes {
				wantFork(t, fmt.Sprint("boxes ", i, " and ", j), b, other, wantedFork(i, j))
			}
		}
	}
}

func wantedFork(i, j int) int {
	if i == j {
		return 4 + i + 1
	}
	return 4 + min(i, j)
}

// Many copies of one box at each length of it, while it grows: each stays what it was, and each goes on by itself.
func TestP15_6_CopiesOnTheWay(t *testing.T) {
	b := newBoth()
	var left []both
	for i := range 40 {
		left = append(left, b.copied(), b.copied())
		b.add(t, "on the way", letterAt(i, byte(i)))
	}
	for i, c := range left {
		c.wantTold(t, fmt.Sprint("copy ", i))
		c.add(t, "a copy goes on", letterAt(99, 9, byte(i)))
	}
	b.wantTold(t, "behind all of it")
	for i, c := range left {
		c.wantTold(t, fmt.Sprint("at last, copy ", i))
		wantFork(t, fmt.Sprint("copy ", i), b, c, i/2)
	}
}

// Boxes share the list of their entries till one adds an entry; a copy has no room in it.
func TestWays_Shared(t *testing.T) {
	b := roomy(t, 100, true).box
	c := b.Copy()
	if &b.rows[0] != &c.rows[0] || cap(c.rows) != len(c.rows) {
		t.Errorf("a copy has a list of its own, or room: %d, %d", len(c.rows), cap(c.rows))
	}
	if c.Add(letterAt(99)); &b.rows[0] == &c.rows[0] {
		t.Error("a copy that has grown writes where the first one does")
	}
	if n := testing.AllocsPerRun(20, func() { b.Copy() }); n > 1 {
		t.Errorf("a copy takes %v pieces of memory", n)
	}
}

// Behind every refusal the box tells what it told ahead of it, and goes on as if it had not been asked.
func TestP15_10_Refused(t *testing.T) {
	for _, room := range []bool{false, true} {
		for _, n := range []int{0, 1, 2, 5, 8} {
			b := roomy(t, n, room)
			copied := b.copied()
			for _, w := range wrong() {
				b.want(t, w.what, w.entry, 0, 150)
			}
			if n > 2 {
				b.want(t, "too early", letterAt(0, 1, 2, 3), 0, 153)
				b.want(t, "too early", depositAt(0), 0, 153)
			}
			copied.wantTold(t, "the copy")
			b.want(t, "on", depositAt(70), n, 0)
			copied.wantTold(t, "the copy")
			copied.want(t, "on", depositAt(70), n, 0)
			wantFork(t, "as if nothing had been", b, copied, n+1)
		}
	}
}

// scribble writes over all of a Body, and over its spare room.
func scribble(body []byte) {
	body = body[:cap(body)]
	for i := range body {
		body[i] ^= 0x5a
	}
}

// bodies of several lengths, with and without spare room.
func bodies() [][]byte {
	var l [][]byte
	for _, n := range []int{0, 1, 3, 8, 100, 4096} {
		for _, room := range []int{0, 1, 64} {
			l = append(l, append(make([]byte, 0, n+room), long(n)...))
		}
	}
	return l
}

func TestP15_10_BodiesThatAreWrittenOverBehindAdd(t *testing.T) {
	b := newBoth()
	for _, body := range bodies() {
		b.add(t, "a Body", api.Entry{Kind: 2, Time: 5, Body: body})
		scribble(body)
		b.wantTold(t, "behind a Body that was written over")
	}
	shared := long(4096) // many Bodies can be pieces of one list
	for i := range 5 {
		b.add(t, "a piece of a list", api.Entry{Kind: 2, Time: 5, Body: shared[i*3 : i*3+20]})
		scribble(shared)
		b.wantTold(t, "behind a list that was written over")
	}
	refused := []byte{1, 2, 3}
	b.add(t, "refused", api.Entry{Kind: 2, Time: 4, Body: refused})
	scribble(refused)
	b.wantTold(t, "behind a refused one")
}

// withBodies is a box with all of them.
func withBodies(t testing.TB) both {
	b := newBoth()
	for i, body := range bodies() {
		b.want(t, "a Body", api.Entry{Kind: 2, Time: 5, Body: body}, i, 0)
	}
	return b
}

func TestP15_10_BodiesThatAreWrittenOverBehindEntry(t *testing.T) {
	b := withBodies(t)
	copied := b.copied()
	for i := range b.box.Len() {
		one, _ := b.box.Entry(i)
		two, _ := b.box.Entry(i)
		scribble(one.Body)
		if !same(two, b.said.entries[i]) {
			t.Errorf("Entry(%d) twice gives the same memory", i)
		}
		one.Body = append(one.Body, 1, 2, 3)
		b.wantTold(t, fmt.Sprint("behind Entry ", i))
		copied.wantTold(t, fmt.Sprint("the copy, behind Entry ", i))
	}
	if got := b.add(t, "on", letterAt(5, 1, 2, 3)); got != api.OK {
		t.Errorf("Add: %d", int(got))
	}
}

func TestP15_10_ListsThatAreWrittenOver(t *testing.T) {
	b := withBodies(t)
	copied := b.copied()
	n := b.box.Len()
	for from := range n {
		for _, to := range []int{from, from + 1, n} {
			one, _ := b.box.Entries(from, to)
			two, _ := b.box.Entries(from, to)
			for i := range one {
				scribble(one[i].Body)
				for j := i + 1; j < len(one); j++ { // no two Bodies of one answer share anything
					if !bytes.Equal(one[j].Body, b.said.entries[from+j].Body) {
						t.Fatalf("Entries(%d, %d): what is written over Body %d is seen in Body %d", from, to, i, j)
					}
				}
				one[i] = api.Entry{Kind: 9, Time: -4}
			}
			room := one[:cap(one)]
			for i := range room {
				room[i] = api.Entry{Kind: 7, Token: i}
			}
			one = append(one, api.Entry{Kind: 8}, api.Entry{Kind: 8})
			if !slices.EqualFunc(two, b.said.entries[from:to], same) {
				t.Fatalf("Entries(%d, %d) twice gives the same memory", from, to)
			}
			b.wantTold(t, fmt.Sprint("behind Entries ", from, " to ", to))
			copied.wantTold(t, fmt.Sprint("the copy, behind Entries ", from, " to ", to))
		}
	}
}

// Check and Next neither turn nor keep what they are handed.
func TestR4_CheckAndNextTurnNothing(t *testing.T) {
	b := withBodies(t)
	list, _ := b.box.Entries(0, b.box.Len())
	for i := range list { // room behind each Body, with something in it
		body := append(make([]byte, 0, len(list[i].Body)+4), list[i].Body...)
		copy(body[len(body):cap(body)], "room")
		list[i].Body = body
	}
	link, _ := b.box.Link(b.box.Len())
	for range 2 {
		wantCheck(t, "the same list", api.Digest{}, link, 0, list...)
		wantCheck(t, "the same list", link, link, 154, list...)
	}
	for i, e := range list {
		if !same(e, b.said.entries[i]) || string(e.Body[len(e.Body):cap(e.Body)][:4]) != "room" {
			t.Errorf("Check has turned entry %d", i)
		}
		for range 2 {
			wanted, _ := sayNext(link, e)
			wantNext(t, fmt.Sprint("entry ", i), link, e, wanted, 0)
		}
		if string(e.Body[len(e.Body):cap(e.Body)][:4]) != "room" {
			t.Errorf("Next has turned the room of entry %d", i)
		}
	}
}

// An empty Body and none are one.
func TestR4_NilAndEmpty(t *testing.T) {
	none, empty := api.Entry{Kind: 2, Time: 5}, api.Entry{Kind: 2, Time: 5, Body: make([]byte, 0, 9)}
	one, two := given(t, none, empty), given(t, empty, none)
	wantFork(t, "none and empty", one, two, 2)
	link, _ := one.box.Link(2)
	wantCheck(t, "none and empty", api.Digest{}, link, 0, none, none)
	wantCheck(t, "none and empty", api.Digest{}, link, 0, empty, empty)
	one.want(t, "a deposit with an empty Body", with(depositAt(5), func(e *api.Entry) { e.Body = []byte{} }), 2, 0)
	two.want(t, "a deposit without a Body", depositAt(5), 2, 0)
	wantFork(t, "none and empty", one, two, 3)
}

// Who adds to a copy does not disturb another who adds to another one, or to the first one, at the same time.
func TestR5_SideBySide(t *testing.T) {
	first := roomy(t, 10, true)
	boxes := []both{first}
	for range 7 {
		boxes = append(boxes, first.copied())
	}
	var group sync.WaitGroup
	for i, b := range boxes {
		group.Go(func() {
			for j := range 40 {
				b.add(t, fmt.Sprint("side by side, box ", i), letterAt(50, byte(i), byte(j)))
				b.box.Copy().Add(letterAt(50))
			}
		})
	}
	group.Wait()
	for i, b := range boxes {
		b.wantTold(t, fmt.Sprint("at last, box ", i))
		for j, other := range boxes[:i] {
			wantFork(t, fmt.Sprint("boxes ", i, " and ", j), b, other, 10)
		}
	}
}
