package node

import (
	"fmt"
	"reflect"
	"runtime"
	"slices"
	"sync"
	"testing"
	"time"
	"unsafe"

	"causeway/api"
	"causeway/exec"
	"causeway/inbox"
)

// whole is all of a list, its spare room too.
func whole[T any](l []T) []T { return l[:cap(l)] }

// A box that is handed in is neither changed nor kept: it grows behind the Follow, and so do its copies; the node does not.
func TestP20_2_BoxGoesOn(t *testing.T) {
	l := theRow()
	for _, n := range []int{0, 1, 4, 7, 8, 20} { // with and without room in the box's list
		b, box := newBoth(zed), boxOf(t, l[:n]...)
		twin := box.Copy()
		b.follow(t, "ahead", box, 3)
		for _, e := range l[n:] {
			if _, f := box.Add(e); f != 0 {
				t.Fatal(f)
			}
			if _, f := twin.Add(other(e)); f != 0 {
				t.Fatal(f)
			}
			if b.node.Count() != n {
				t.Fatalf("the box goes on, and the node has %d", b.node.Count())
			}
		}
		b.wantTold(t, fmt.Sprint("behind ", n, ", while the box goes on"))
		if k, f := b.node.Fork(box), b.node.Fork(twin); k != n || f != n {
			t.Errorf("Fork is %d and %d, not %d", k, f, n)
		}
		b.follow(t, "on", twin, 3)
		b.wantTold(t, "on")
		b.follow(t, "on", box, 3)
		b.wantTold(t, "on")
	}
}

// Two nodes that follow one box, which goes on in between, and a node that goes on while the box stays.
func TestP20_7_OneBoxOfTwo(t *testing.T) {
	l := theRow()
	one, two, box := newBoth(zed), newBoth(ann), inbox.New()
	for i, e := range l {
		if _, f := box.Add(e); f != 0 {
			t.Fatal(f)
		}
		if i%3 != 0 {
			one.follow(t, "the first one", box, 2)
			two.wantTold(t, "the second one")
		}
		if i%5 == 0 {
			two.follow(t, "the second one", box, 2)
			one.wantTold(t, "the first one")
		}
		if i%7 == 6 {
			one.follow(t, "the first one, elsewhere", boxOf(t, and(l[:i/2], sent(dan))...), 2)
			two.wantTold(t, "the second one")
		}
	}
	one.follow(t, "at last", box, 2)
	two.follow(t, "at last", box, 2)
	one.wantTold(t, "the first one, at last")
	two.wantTold(t, "the second one, at last")
}

// spoilWitness writes over all that a witness has.
func spoilWitness(w api.Witness) {
	for i, p := range whole(w.Pairs) {
		for j := range whole(p.Value) {
			whole(p.Value)[j] ^= 255
		}
		whole(w.Pairs)[i] = api.Pair{Key: "spoiled", Value: []byte{1}}
	}
	for i := range whole(w.Proof.Marks) {
		whole(w.Proof.Marks)[i] ^= 255
	}
	for i := range whole(w.Proof.Sides) {
		whole(w.Proof.Sides)[i][0] ^= 255
	}
}

// What is answered may be written over, its spare room too: that is not seen in the node, nor in a second answer.
func TestP20_7_Answered(t *testing.T) {
	l := theRow()
	b := newBoth(zed).row(t, "ahead", 3, l...)
	for size := range b.node.Leaves() + 1 {
		for index := range size {
			one, two := sure(b.node.Path(index, size)), sure(b.node.Path(index, size))
			was := slices.Clone(two)
			for i := range whole(one) {
				whole(one)[i][0] ^= 255
			}
			if !slices.Equal(two, was) || !slices.Equal(sure(b.node.Path(index, size)), was) {
				t.Errorf("Path(%d, %d): two answers share something", index, size)
			}
		}
	}
	b.wantTold(t, "behind paths that were written over")
	s := reckon(zed, l)
	for _, x := range manySpans(len(l)) {
		one, two := sure(b.node.Witness(x.from, x.to)), sure(b.node.Witness(x.from, x.to))
		spoilWitness(one)
		if text := s.differWitness(b.node, []span{x}); text != "" {
			t.Errorf("behind a witness that was written over: %s", text)
		}
		if !sameWitness(two, sure(b.node.Witness(x.from, x.to))) {
			t.Errorf("Witness(%d, %d): two answers share something", x.from, x.to)
		}
	}
	b.wantTold(t, "behind witnesses that were written over")
	b.row(t, "on", 3, and(l, written(bob, burn(0, ann, 1)))...).row(t, "back", 3, l[:9]...)
}

// No two lists of one witness share anything, their spare room neither.
func TestP20_7_ListsOfOneAnswer(t *testing.T) {
	l := theRow()
	b := newBoth(zed).row(t, "ahead", 3, l...)
	for _, x := range someSpans(len(l)) {
		w, wanted := sure(b.node.Witness(x.from, x.to)), sure(b.node.Witness(x.from, x.to))
		for i := range w.Pairs {
			for j := range whole(w.Pairs[i].Value) {
				whole(w.Pairs[i].Value)[j] ^= 255
			}
			left, right := api.Witness{Pairs: w.Pairs[i+1:], Proof: w.Proof}, api.Witness{Pairs: wanted.Pairs[i+1:], Proof: wanted.Proof}
			if !sameWitness(left, right) {
				t.Errorf("%v: value %d shares something with another list", x, i)
			}
		}
		for j := range whole(w.Proof.Marks) {
			whole(w.Proof.Marks)[j] ^= 255
		}
		if !slices.Equal(w.Proof.Sides, wanted.Proof.Sides) {
			t.Errorf("%v: Marks and Sides share something", x)
		}
	}
}

// Two nodes in turns, over boxes that have and have not something in common.
func TestP20_7_TwoNodes(t *testing.T) {
	l := theRow()
	one, two, three := newBoth(zed), newBoth(zed), newBoth(bob)
	for what, to := range steppes(l[:16]) {
		one.row(t, what, 2, to...)
		two.wantTold(t, what+", the second one")
		two.row(t, what, 2, l[:5+len(to)/2]...)
		one.wantTold(t, what+", the first one")
		three.row(t, what, 2, to...)
		one.wantTold(t, what+", the first one")
		two.wantTold(t, what+", the second one")
	}
}

// wantNoneLeft waits for goroutines that are about to end, and refuses those that do not.
func wantNoneLeft(t testing.TB, what string, ahead int) {
	t.Helper()
	for range 5000 {
		if runtime.NumGoroutine() <= ahead {
			return
		}
		time.Sleep(time.Millisecond)
	}
	t.Fatalf("%s: %d goroutines, and %d ahead of it", what, runtime.NumGoroutine(), ahead)
}

func TestR5_NoGoroutineIsLeft(t *testing.T) {
	l := theRow()
	ahead := runtime.NumGoroutine()
	for _, workers := range []int{-1, 0, 1, 2, 16, 17} {
		n := New(zed)
		for _, to := range [][]api.Entry{l, nil, l[:3], l[:3], {sent(ann)}} {
			n.Follow(boxOf(t, to...), workers)
			wantNoneLeft(t, fmt.Sprint(workers, " workers, ", len(to), " entries"), ahead)
		}
		n.Follow(nil, workers)
		wantNoneLeft(t, "no box", ahead)
		n.Follow(spoiled(t, l, 5, api.Entry{Kind: 3}), workers)
		wantNoneLeft(t, "refused", ahead)
	}
}

// Questions of one node, and Follows of others over the same box, may come from several at the same time.
func TestR5_SideBySide(t *testing.T) {
	l := theRow()
	n, box, s := New(zed), boxOf(t, l...), reckon(zed, l)
	if _, e := n.Follow(box, 4); e != 0 {
		t.Fatal(e)
	}
	texts := make([]string, 8)
	var all sync.WaitGroup
	for i := range texts {
		mine, detour := New(zed), boxOf(t, l[:i]...)
		all.Go(func() {
			if i%2 == 0 {
				mine.Follow(detour, 1+i)
			}
			mine.Follow(box, 1+2*i)
			again := reckon(zed, l)
			texts[i] = again.differ(mine, someSpans(len(l))) + again.differ(n, someSpans(len(l)))
		})
	}
	all.Wait()
	for i, text := range texts {
		if text != "" {
			t.Errorf("goroutine %d: %s", i, text)
		}
	}
	if text := s.differ(n, someSpans(len(l))); text != "" {
		t.Error(text)
	}
}

// bad are entries that may not be.
func bad() []api.Entry {
	good := deposit(ann, 3, bob, 5, 100)
	turned := func(f func(*api.Entry)) api.Entry {
		e := good
		f(&e)
		return e
	}
	return []api.Entry{
		{},
		{Kind: 3},
		{Kind: -1},
		turned(func(e *api.Entry) { e.Amount = api.Wide{} }),
		turned(func(e *api.Entry) { e.Token = 64 }),
		turned(func(e *api.Entry) { e.Token = -1 }),
		turned(func(e *api.Entry) { e.Gas = -1 }),
		turned(func(e *api.Entry) { e.Gas = full + 1 }),
		turned(func(e *api.Entry) { e.Time = -1 }),
		turned(func(e *api.Entry) { e.Body = []byte{1} }),
		{Kind: 2, Time: 1<<62 + 1},
		{Kind: 2, Body: make([]byte, 4097)},
		{Kind: 2, Gas: 1},
	}
}

// spoiled is a box in which an entry stands that no box takes: laid there by force, as no call does.
func spoiled(t testing.TB, l []api.Entry, i int, e api.Entry) *inbox.Box {
	t.Helper()
	b := boxOf(t, l...)
	opened := func(v reflect.Value) reflect.Value {
		return reflect.NewAt(v.Type(), unsafe.Pointer(v.UnsafeAddr())).Elem()
	}
	rows := opened(reflect.ValueOf(b).Elem().FieldByName("rows"))
	opened(rows.Index(i).FieldByName("entry")).Set(reflect.ValueOf(e))
	if got := sure(b.Entry(i)); !alike(got, e) {
		t.Fatalf("the box is not spoiled: %+v", got)
	}
	return b
}

// A box with an entry that may not be is refused, wherever it stands and whoever looks at it; the node is as it was, and goes on.
func TestP20_2_EntriesThatMayNotBe(t *testing.T) {
	l := theRow()[:20]
	for _, had := range [][]api.Entry{nil, l[:10], l, with(l, 3, other(l[3]))} {
		for k, e := range bad() {
			b := newBoth(zed).row(t, "ahead", 2, had...)
			for _, i := range []int{0, 1, 9, 10, 19} {
				box := spoiled(t, l, i, e)
				workers := 1 + (k+i)%16
				if got, f := b.node.Follow(box, workers); got != 0 || f != 201 {
					t.Errorf("entry %d is %+v: Follow is %d, %d", i, e, got, int(f))
				}
			}
			b.wantTold(t, fmt.Sprint("behind refused boxes with ", k))
			b.row(t, "on", 2, l...)
		}
	}
}

// Each worker finds each entry that may not be, and none where there is none.
func TestLook(t *testing.T) {
	l := theRow()
	for workers := 1; workers <= 16; workers++ {
		for n := range len(l) + 1 {
			if !mayAllBe(l[:n], workers) {
				t.Errorf("%d entries, %d workers: refused", n, workers)
			}
			if n < len(l) && mayAllBe(with(l, n, bad()[n%len(bad())]), workers) {
				t.Errorf("%d workers: what may not be at %d is not found", workers, n)
			}
		}
	}
}

// eightOf is a number in 8 bytes, the highest first.
func eightOf(n int) []byte {
	b := make([]byte, 8)
	for i := range b {
		b[i] = byte(n >> (56 - 8*i))
	}
	return b
}

// forged is a node in whose store something stood ahead of all entries that never does.
func forged(t testing.TB, key string, value []byte) *Node {
	t.Helper()
	n := New(zed)
	if e := n.table.Put(key, value); e != 0 {
		t.Fatal(e)
	}
	c, e := exec.Commit(n.table)
	if e == 0 {
		n.steps[0].commit = c
	}
	return n
}

// held is all that a node has.
func held(n *Node) string {
	text := fmt.Sprintf("%d %d %x %x", n.Count(), n.Leaves(), n.table.Root(), sure(n.table.Bytes()))
	for i := range n.Count() + 1 {
		c, e := n.Commit(i)
		r, f := n.Receipt(i)
		text += fmt.Sprint(c, e, r, f, n.steps[i].back)
	}
	for i := range n.Leaves() {
		text += fmt.Sprint(sure(n.Leaf(i)), sure(n.Path(i, n.Leaves())))
	}
	for _, x := range someSpans(n.Count()) {
		text += fmt.Sprint(sure(n.Witness(x.from, x.to)))
	}
	return text + fmt.Sprint(inBox(n.box))
}

// Where exec refuses an entry, which it does over no ledger's store, what was executed ahead of it is taken back, and what was taken back is executed again.
func TestP20_2_RefusedByExec(t *testing.T) {
	calm := []api.Entry{
		written(zed, tokened(api.LetterToken, 0)),
		deposit(ann, 0, bob, 50, 100),
		written(bob, burn(0, ann, 5)),
		written(bob, burn(0, ann, 6)),
		written(bob, coding(giver())),
		written(bob, many(burn(0, ann, 6), burn(0, cyd, 7))),
		written(bob, move(0, cyd, 3)),
		written(cyd, burn(0, dan, 1)),
	}
	for _, x := range []struct {
		what  string
		key   string
		value []byte
		entry api.Entry
	}{
		{"no ticket is left", "nt", eightOf(full), deposit(ann, 0, bob, 5, 99)},
		{"a token of no form", "t\x07", []byte{1, 2, 3}, deposit(ann, 7, bob, 5, 100)},
		{"tickets of no form", "nt", []byte{1, 2, 3}, deposit(ann, 9, bob, 5, 100)},
	} {
		for left := range len(calm) + 1 {
			for more := range 4 {
				n := forged(t, x.key, x.value)
				if _, e := n.Follow(boxOf(t, calm...), 2); e != 0 {
					t.Fatalf("%s: %d", x.what, int(e))
				}
				to := slices.Clone(calm[:left])
				if left == 0 {
					to = append(to, sent(dan), calm[0]) // the token must be there for what comes
				}
				for range more {
					to = append(to, written(bob, burn(0, dan, 1)), deposit(dan, 0, dan, 9, 100))
				}
				was := held(n)
				to = append(to, x.entry, sent(dan))
				if k, e := n.Follow(boxOf(t, to...), 2); k != 0 || e != 201 {
					t.Errorf("%s, behind %d and %d: %d, %d", x.what, left, more, k, int(e))
				}
				if now := held(n); now != was {
					t.Errorf("%s, behind %d and %d: the node has turned", x.what, left, more)
				}
				if k, e := n.Follow(boxOf(t, to[:len(to)-2]...), 2); k != len(calm)-common(calm, to) || e != 0 || n.Count() != len(to)-2 {
					t.Errorf("%s, behind %d and %d, on: %d, %d", x.what, left, more, k, int(e))
				}
			}
		}
	}
}

// Where nothing can be committed, which is so over no ledger's store, what the entry laid is taken back, too.
func TestP20_2_NothingToCommit(t *testing.T) {
	n := forged(t, "o", []byte{1, 2, 3})
	was := held(n)
	for _, l := range [][]api.Entry{{sent(ann)}, {written(zed, tokened(api.LetterToken, 0))}, {deposit(ann, 0, bob, 5, 100), sent(ann)}} {
		if k, e := n.Follow(boxOf(t, l...), 2); k != 0 || e != 201 || held(n) != was {
			t.Errorf("Follow: %d, %d, or the node has turned", k, int(e))
		}
	}
}

// No more is kept than can be asked for: what was taken back is cleared, and the store has what the entries made, and no more.
func TestSteps_Cleared(t *testing.T) {
	l := theRow()
	b := newBoth(zed)
	for what, to := range steppes(l) {
		b.row(t, "ahead", 3, l...).row(t, what, 3, to...)
		n := b.node
		if len(n.steps) != len(to)+1 || n.box.Len() != len(to) {
			t.Errorf("%s: %d steps, %d entries", what, len(n.steps), n.box.Len())
		}
		for i, s := range whole(n.steps)[len(n.steps):] {
			if !reflect.DeepEqual(s, step{}) {
				t.Errorf("%s: behind the steps, place %d: %+v", what, i, s)
			}
		}
		for i := range len(to) + 1 {
			if got, wanted := sure(n.behind(i).Bytes()), sure(reckon(zed, to[:i]).tables[i].Bytes()); !slices.Equal(got, wanted) {
				t.Errorf("%s: the store behind %d entries is %x, not %x", what, i, got, wanted)
			}
		}
	}
}

// The store behind a count is a table of its own.
func TestBehind_IsItsOwn(t *testing.T) {
	l := theRow()
	b := newBoth(zed).row(t, "ahead", 3, l...)
	for i := range len(l) + 1 {
		table := b.node.behind(i)
		for key := range table.All() {
			if e := table.Put(key, []byte("spoiled")); e != 0 {
				t.Fatal(e)
			}
		}
	}
	b.wantTold(t, "behind tables that were written over")
}

func TestR1_Nil(t *testing.T) {
	var n *Node
	if k, e := n.Follow(inbox.New(), 1); k != 0 || e != 1 {
		t.Errorf("Follow of a nil node: %d, %d", k, int(e))
	}
	if n.Count() != 0 || n.Fork(inbox.New()) != 0 || n.Fork(nil) != 0 || n.Leaves() != 0 {
		t.Error("a nil node tells something")
	}
	if c, e := n.Commit(0); c != (api.Commit{}) || e != 1 {
		t.Errorf("Commit of a nil node: %v, %d", c, int(e))
	}
	wantReceipt(t, n, 0, api.Receipt{}, 1)
	wantTicket(t, n, 0, api.Ticket{}, 1)
	wantLeaf(t, n, 0, api.Leaf{}, 1)
	if x, e := n.Token(0); x != (api.Token{}) || e != 1 {
		t.Errorf("Token of a nil node: %+v, %d", x, int(e))
	}
	if x, e := n.Balance(0, ann); x != (api.Wide{}) || e != 1 {
		t.Errorf("Balance of a nil node: %v, %d", x, int(e))
	}
	if p, e := n.Path(0, 1); len(p) != 0 || e != 1 {
		t.Errorf("Path of a nil node: %x, %d", p, int(e))
	}
	if w, e := n.Witness(0, 1); !sameWitness(w, api.Witness{}) || e != 1 {
		t.Errorf("Witness of a nil node: %x, %d", w, int(e))
	}
}

// A node that nobody made with New has nothing, and is no reason to panic for whoever looks at it.
func TestR1_Zero(t *testing.T) {
	n := &Node{}
	if n.Leaves() != 0 {
		t.Errorf("a zero node has %d leaves", n.Leaves())
	}
	for _, index := range []int{-1, 0, 1} {
		wantLeaf(t, n, index, api.Leaf{}, 203)
		for size := range 3 {
			if p, e := n.Path(index, size); len(p) != 0 || e != 203 {
				t.Errorf("Path(%d, %d) of a zero node: %x, %d", index, size, p, int(e))
			}
		}
	}
}
