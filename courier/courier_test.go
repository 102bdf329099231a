package courier

import (
	"fmt"
	"math"
	"reflect"
	"testing"

	"causeway/api"
	"causeway/contract"
	"causeway/node"
)

func TestNumbers(t *testing.T) {
	for i, x := range [][2]int{
		{int(api.OK), 0}, {int(api.ErrArg), 1}, {int(api.ErrCourierLeaf), 220}, {int(api.ErrCourierEarly), 221}, {int(api.ErrCourierPaid), 222}, {int(api.ErrCourierNode), 223},
		{api.LeafUnknown, 0}, {api.LeafBurned, 1}, {api.LeafAsserted, 2}, {api.LeafConfirmed, 3}, {api.LeafPaid, 4},
		{api.OpClaim, 13}, {api.PayLeaf, 1}, {int(api.ErrEscrowNone), 141}, {int(api.ErrEscrowFunds), 146},
	} {
		if x[0] != x[1] {
			t.Errorf("number %d is %d, not %d", i, x[0], x[1])
		}
	}
}

// The chapter's rows, one by one.
func TestExamples(t *testing.T) {
	w := newWorld(t, list(0), token(0), deposit(ann, 0, bob, of(100), 100), burn(bob, 0, cyd, 10), burn(bob, 0, dan, 10))

	w.wantStages(t, "nothing is asserted", 1, 1, 0)
	w.wantRefused(t, "nothing is asserted", 221, 0)
	w.wantDue(t, "nothing is asserted")

	w.post(t, w.behind(t, 1))
	w.wantStages(t, "an assertion with Leaves 1", 2, 1, 0)
	w.wantRefused(t, "an assertion with Leaves 1", 221, 0)
	w.wantDue(t, "an assertion with Leaves 1")

	w.do(t, 101, confirm(ann))
	w.wantStages(t, "it is confirmed", 3, 1, 0)
	if o, e := Claim(w.n, w.c, cyd, 0); e != 0 || o.Kind != 13 || o.By != cyd {
		t.Errorf("it is confirmed: %s, %d", textOf(o), int(e))
	}
	w.wantDue(t, "it is confirmed", 0)

	x := w.with(t, 101).stand(t, noughts(w.behind(t, 2)))
	x.wantStages(t, "noughts are confirmed", 3, 3, 0)
	x.wantRefused(t, "noughts are confirmed", 223, 0)
	x.wantDue(t, "noughts are confirmed")

	w.stand(t, w.behind(t, 2))
	w.wantClaim(t, "the right one is confirmed", dan, w.c.Now(), 0)
	w.wantStages(t, "leaf 0 is paid", 4, 3, 0)
	w.wantRefused(t, "leaf 0 is paid", 222, 0)
	w.wantDue(t, "leaf 0 is paid", 1)

	for _, y := range []*world{w, x} {
		y.wantRefused(t, "no leaf", 220, 2, -1)
		if s, e := Stage(nil, y.c, 0); s != 0 || e != 1 {
			t.Errorf("Stage(nil, ..): %d, %d", s, int(e))
		}
	}
}

// A nil node, a nil contract and both: ErrArg, ahead of all else, and the other one stays as it is.
func TestR1_Nil(t *testing.T) {
	w := newWorld(t, leafy(5)...)
	w.stand(t, w.behind(t, 3)).wantClaim(t, "ahead", dan, 101, 0)
	w.stays(t, "nil", func() {
		for i, x := range []struct {
			n *node.Node
			c *contract.Contract
		}{{nil, w.c}, {w.n, nil}, {nil, nil}} {
			for _, index := range []int{math.MinInt, -1, 0, 1, 2, 3, 4, 5, 6, full, math.MaxInt} {
				if s, e := Stage(x.n, x.c, index); s != 0 || e != 1 {
					t.Errorf("%d: Stage(%d): %d, %d", i, index, s, int(e))
				}
				if o, e := Claim(x.n, x.c, dan, index); !reflect.DeepEqual(o, api.Op{}) || e != 1 {
					t.Errorf("%d: Claim(%d): %s, %d", i, index, textOf(o), int(e))
				}
			}
			if l, e := Due(x.n, x.c); l != nil || e != 1 {
				t.Errorf("%d: Due: %v, %d", i, l, int(e))
			}
		}
	})
}

// Nodes and contracts that nobody made with New are no reason to panic.
func TestR1_Zero(t *testing.T) {
	w := newWorld(t, leafy(3)...)
	w.stand(t, w.behind(t, 3)).wantClaim(t, "ahead", dan, 101, 1)
	for _, n := range []*node.Node{{}, w.n} {
		for _, c := range []*contract.Contract{{}, w.c} {
			for index := -1; index < 5; index++ {
				Stage(n, c, index)
				Claim(n, c, dan, index)
			}
			Due(n, c)
		}
	}
	if s, e := Stage(&node.Node{}, w.c, 1); s != 4 || e != 0 {
		t.Errorf("Stage of what is paid, by a zero node: %d, %d", s, int(e))
	}
	if o, e := Claim(&node.Node{}, w.c, dan, 0); e != 220 || o.Kind != 0 {
		t.Errorf("Claim by a zero node: %d", int(e))
	}
}

// payFar lets a leaf of any index be paid under a lie: among 2^40 leaves, of which nothing but its path is known.
func (w *world) payFar(t testing.TB, index int) *world {
	t.Helper()
	leaf := api.Leaf{Index: index, Entry: 3, To: dan, Amount: of(1)}
	d, path := leafDigest(leaf), []api.Digest{}
	for level := range 40 {
		beside := api.Digest{byte(level + 1)}
		path = append(path, beside)
		if index>>level&1 == 0 {
			d = nodeDigest(d, beside)
		} else {
			d = nodeDigest(beside, d)
		}
	}
	w.stand(t, api.Commit{Count: w.c.Top().Count + 1, Outbox: d, Leaves: full})
	return w.do(t, w.c.Now(), api.Op{Kind: 13, By: dan, Body: bytesOf(leaf), Path: path})
}

// Below nought, at it, at the last leaf, at their count and far above it, while nothing is asserted, something is, and something is confirmed.
func TestP22_1_P22_2_Indexes(t *testing.T) {
	w := newWorld(t, leafy(5)...)
	asserted := w.with(t, 1).post(t, w.behind(t, 4), w.last())
	confirmed := w.with(t, 1).stand(t, w.behind(t, 4), w.last())
	for _, x := range []struct {
		what  string
		w     *world
		stage int
		code  api.Errno
	}{{"nothing", w, 1, 221}, {"asserted", asserted, 2, 221}, {"confirmed", confirmed, 3, 0}} {
		for _, index := range []int{0, 4} {
			x.w.wantStage(t, x.what, index, x.stage)
			if _, e := Claim(x.w.n, x.w.c, dan, index); e != x.code {
				t.Errorf("%s: Claim(%d): %d, not %d", x.what, index, int(e), int(x.code))
			}
		}
		outside := []int{math.MinInt, -1 << 32, -1, 5, 6, 1 << 32, full - 1, full, full + 1, math.MaxInt}
		for _, index := range outside {
			x.w.wantStage(t, x.what, index, 0)
		}
		x.w.wantRefused(t, x.what, 220, outside...)
	}
}

// What is paid is paid, whether the node has a leaf of that index or not.
func TestP22_1_P22_2_Paid(t *testing.T) {
	w := newWorld(t, leafy(5)...)
	for _, index := range []int{0, 1, 4, 5, 6, 1 << 32, full - 2, full - 1} {
		what := fmt.Sprint(index, " is paid")
		x := w.with(t, 1).payFar(t, index)
		x.wantStage(t, what, index, 4)
		x.wantRefused(t, what, 222, index)
		for _, other := range []int{-1, index - 1, index + 1} {
			switch {
			case other < 0 || other > 4:
				x.wantStage(t, what, other, 0)
				x.wantRefused(t, what, 220, other)
			default:
				x.wantStage(t, what, other, 3)
				x.wantRefused(t, what, 223, other)
			}
		}
		x.wantDue(t, what)
	}
}

// Each stage, and ahead of each those that hold, too.
func TestP22_1_Order(t *testing.T) {
	w := newWorld(t, leafy(6)...)
	w.wantStages(t, "nothing", 1, 1, 1, 1, 1, 1, 0, 0)
	w.post(t, w.behind(t, 2)).wantStages(t, "one is pending", 2, 2, 1, 1, 1, 1, 0)
	w.post(t, w.behind(t, 3), w.behind(t, 5)).wantStages(t, "three are pending", 2, 2, 2, 2, 2, 1, 0)
	w.do(t, 101, confirm(ann)).wantStages(t, "confirmed ahead of asserted", 3, 3, 2, 2, 2, 1, 0)
	w.wantClaim(t, "the first", dan, 101, 1)
	w.wantStages(t, "paid ahead of confirmed and asserted", 3, 4, 2, 2, 2, 1, 0)
	w.do(t, 101, confirm(ann), confirm(ann)).wantStages(t, "all are confirmed", 3, 4, 3, 3, 3, 1, 0)

	none := w.seen(t, 0)
	none.wantStages(t, "a node without entries", 0, 4, 0, 0, 0, 0, 0)
	none.wantRefused(t, "a node without entries", 222, 1)
	none.wantRefused(t, "a node without entries", 220, 0, 2, 5)
	none.wantDue(t, "a node without entries")

	// Whatever an assertion says beside its Leaves is not asked.
	x := newWorld(t, leafy(6)...)
	x.post(t, api.Commit{Count: 1, Leaves: 1}, noughts(leaves(x.behind(t, 1), 4))).wantStages(t, "lies are pending", 2, 2, 2, 2, 1, 1, 0)
	x.do(t, 101, confirm(ann)).wantStages(t, "a lie is confirmed", 3, 2, 2, 2, 1, 1, 0)
	x.wantRefused(t, "a lie is confirmed", 223, 0)
	x.wantRefused(t, "a lie is confirmed", 221, 1, 3, 5)
	x.wantRefused(t, "a lie is confirmed", 220, 6)
}

// An assertion, and what is confirmed, whose Leaves is at the index, one above it, and beyond all leaves.
func TestP22_1_P22_2_Leaves(t *testing.T) {
	w := newWorld(t, leafy(9)...)
	for k := range 10 {
		what := fmt.Sprint("Leaves ", k)
		c := leaves(api.Commit{Count: 1}, k)
		if k > 0 {
			c = w.behind(t, k)
		}
		x := w.with(t, 1).post(t, c)
		for index := range 9 {
			wanted := 1
			if index < k {
				wanted = 2
			}
			x.wantStage(t, what, index, wanted)
		}
		x.wantRefused(t, what+", asserted", 221, 0, 1, 2, 3, 4, 5, 6, 7, 8)
		x.do(t, 101, confirm(ann))
		var due []int
		for index := range 9 {
			if index < k {
				x.wantStage(t, what, index, 3)
				due = append(due, index)
				continue
			}
			x.wantStage(t, what, index, 1)
			x.wantRefused(t, what, 221, index)
		}
		x.wantDue(t, what, due...)
	}
	for _, n := range []int{10, 1 << 32, full} {
		x := w.with(t, 1).post(t, leaves(w.last(), n))
		x.wantStages(t, "more than there are", 2, 2, 2, 2, 2, 2, 2, 2, 2, 0)
		x.wantStage(t, "more than there are", n-1, 0)
		x.do(t, 101, confirm(ann)).wantStages(t, "more than there are", 3, 3, 3, 3, 3, 3, 3, 3, 3, 0)
		x.wantStage(t, "more than there are", n-1, 0)
		x.wantRefused(t, "more than there are", 223, 0, 8)
		x.wantRefused(t, "more than there are", 220, 9, n-1, n)
	}
}

// Each refusal, and two or more of them at once.
func TestP22_2_Order(t *testing.T) {
	w := newWorld(t, leafy(6)...)
	w.stand(t, w.behind(t, 2)).wantClaim(t, "ahead", dan, 101, 0)

	w.wantRefused(t, "paid, else it could be claimed", 222, 0)
	w.wantRefused(t, "not confirmed", 221, 2, 5)
	w.wantRefused(t, "not there, and not confirmed", 220, 6, -1)
	w.seen(t, 0).wantRefused(t, "paid, and not there", 222, 0)
	w.seen(t, 0).wantRefused(t, "not there, though confirmed; and the node has another outbox", 220, 1)

	x := w.with(t, 101).stand(t, turned(w.behind(t, 4)))
	x.wantRefused(t, "paid, and another outbox", 222, 0)
	x.wantRefused(t, "another outbox", 223, 1, 2, 3)
	x.wantRefused(t, "not confirmed, and another outbox", 221, 4, 5)
	x.wantRefused(t, "not there, not confirmed, and another outbox", 220, 6, full, -1)

	far := w.with(t, 101).payFar(t, full-1)
	far.wantRefused(t, "paid, not there, and another outbox", 222, full-1)
	far.wantRefused(t, "paid, and another outbox", 222, 0)
	far.wantRefused(t, "not there, and another outbox", 220, full-2, 6)
	far.wantRefused(t, "another outbox", 223, 1, 5)
}

// A node that has fewer leaves than are confirmed, as many, and more.
func TestP22_2_HowManyLeaves(t *testing.T) {
	w := newWorld(t, leafy(7)...)
	for k := 1; k <= 7; k++ {
		w.stand(t, w.behind(t, k))
		for had := range 8 {
			what := fmt.Sprint(k, " are confirmed, the node has ", had)
			x := w.seen(t, 0)
			if had > 0 {
				x = w.seen(t, w.behind(t, had).Count)
			}
			if x.n.Leaves() != had {
				t.Fatalf("%s: it has %d", what, x.n.Leaves())
			}
			for index := range had {
				switch {
				case index >= k:
					x.wantRefused(t, what, 221, index)
				case had < k:
					x.wantRefused(t, what, 223, index)
				default:
					if o, e := Claim(x.n, x.c, ann, index); e != 0 || !sameOp(o, sure(x.claim(ann, index))) {
						t.Errorf("%s: Claim(%d): %s, %d", what, index, textOf(o), int(e))
					}
				}
			}
			x.wantRefused(t, what, 220, had, had+1, -1)
		}
	}
}

// A confirmed commit with another root: of noughts, of one bit, of fewer and of more leaves, of no leaf, of the right leaves with another number of them.
func TestP22_2_OtherRoot(t *testing.T) {
	w := newWorld(t, leafy(6)...)
	right := w.behind(t, 4)
	for i, root := range []api.Digest{
		{}, turned(right).Outbox, w.behind(t, 3).Outbox, w.behind(t, 5).Outbox, rootOf(nil), rootOf(w.side.leaves[1:5]), right.State, leafDigest(w.side.leaves[0]),
	} {
		what := fmt.Sprint("root ", i)
		c := right
		c.Outbox = root
		x := w.with(t, 1).stand(t, c)
		x.wantStages(t, what, 3, 3, 3, 3, 1, 1, 0)
		x.wantRefused(t, what, 223, 0, 1, 2, 3)
		x.wantRefused(t, what, 221, 4, 5)
		x.wantDue(t, what)
	}
	for _, n := range []int{1, 2, 3, 5, 6, 7, 8} {
		what := fmt.Sprint("the root of 4 leaves as that of ", n)
		x := w.with(t, 1).stand(t, leaves(right, n))
		x.wantRefused(t, what, 223, 0)
		x.wantDue(t, what)
	}
	// What is said beside the outbox is not asked: neither the state nor the count.
	c := right
	c.Count, c.State = 1, api.Digest{9}
	w.with(t, 1).stand(t, c).wantDue(t, "another state and another count", 0, 1, 2, 3)
}

// A node that has followed another inbox: with other leaves, with the same ones and others behind them, with none.
func TestP22_2_OtherInbox(t *testing.T) {
	w := newWorld(t, leafy(6)...)
	w.stand(t, w.behind(t, 4)).wantClaim(t, "ahead", dan, 101, 1)

	x := w.seen(t, w.behind(t, 3).Count, burn(bob, 0, dan, 77), burn(bob, 0, dan, 78))
	x.wantStages(t, "the fourth leaf is another one", 3, 4, 3, 3, 1, 0)
	x.wantRefused(t, "the fourth leaf is another one", 223, 0, 2, 3)
	x.wantRefused(t, "the fourth leaf is another one", 222, 1)
	x.wantRefused(t, "the fourth leaf is another one", 221, 4)
	x.wantDue(t, "the fourth leaf is another one")

	x = w.seen(t, w.behind(t, 4).Count, burn(bob, 0, dan, 77))
	x.wantStages(t, "the fifth leaf is another one", 3, 4, 3, 3, 1, 0)
	x.wantDue(t, "the fifth leaf is another one", 0, 2, 3)

	// The same leaves by another way: the entries ahead of them are others, but as many.
	l := leafy(6)
	other := newWorld(t, append([]api.Op{l[0], l[1], l[3], l[2]}, l[4:]...)...)
	other.c, other.paid = w.c, w.paid
	if other.n.Fork(w.c.Inbox()) != 0 {
		t.Fatal("the inboxes are not others from the beginning")
	}
	other.wantStages(t, "the same leaves by another way", 3, 4, 3, 3, 1, 1, 0)
	other.wantDue(t, "the same leaves by another way", 0, 2, 3)

	x = w.seen(t, 0, send(dan, 1), send(dan, 2))
	x.wantStages(t, "no leaf", 0, 4, 0, 0, 0)
	x.wantRefused(t, "no leaf", 220, 0, 2, 3, 4)
	x.wantDue(t, "no leaf")

	// One who believes what a liar's node has.
	liar := w.seen(t, w.behind(t, 2).Count, burn(bob, 0, dan, 500), burn(cyd, 1, dan, 600), burn(bob, 0, dan, 700))
	liar.stand(t, count(liar.last(), w.c.Top().Count+1))
	liar.wantDue(t, "the liar's", 0, 2, 3, 4)
	w.wantStages(t, "a lie is confirmed", 3, 4, 3, 3, 3, 1, 0)
	w.wantRefused(t, "a lie is confirmed", 223, 0, 2, 3, 4)
	w.wantDue(t, "a lie is confirmed")
	liar.wantClaim(t, "the liar's", dan, w.c.Now(), 4)
	w.wantStages(t, "a lie is paid", 3, 4, 3, 3, 4, 1, 0)
	w.wantRefused(t, "a lie is paid", 222, 4)
}

// The operation's fields: who is named, the leaf's bytes, and the path among the leaves that are confirmed, not among all that the node has; for every number of leaves.
func TestP22_2_Fields(t *testing.T) {
	w := newWorld(t, leafy(21)...)
	for k := 1; k <= 21; k++ {
		w.stand(t, w.behind(t, k))
		for index := range k {
			for _, by := range []api.Address{{}, ann, someone(byte(index))} {
				o, e := Claim(w.n, w.c, by, index)
				path := pathOf(w.side.leaves[:k], index)
				wanted := api.Op{Kind: 13, By: by, Body: bytesOf(w.side.leaves[index]), Path: path}
				if e != 0 || !sameOp(o, wanted) {
					t.Fatalf("%d of %d: %s, %d, not %s", index, k, textOf(o), int(e), textOf(wanted))
				}
				if o.Token != 0 || o.To != (api.Address{}) || o.Amount != (api.Wide{}) || o.Gas != 0 || o.Number != 0 || o.Index != 0 {
					t.Errorf("%d of %d: %s", index, k, textOf(o))
				}
				if e := contract.Check(o); e != 0 {
					t.Errorf("%d of %d: it may not be an operation: %d", index, k, int(e))
				}
			}
		}
	}
	one := newWorld(t, leafy(21)...)
	one.stand(t, one.behind(t, 1))
	if o, e := Claim(one.n, one.c, ann, 0); e != 0 || len(o.Path) != 0 {
		t.Errorf("one leaf: %s, %d", textOf(o), int(e))
	}
}

// Several leaves of one entry, of which the confirmed commit has all or none.
func TestP22_1_ManyByOneEntry(t *testing.T) {
	w := newWorld(t, list(0), token(0), deposit(ann, 0, bob, of(1000), 100), burn(bob, 0, cyd, 1),
		written(bob, api.Letter{Kind: api.LetterMany, Parts: []api.Letter{burning(0, ann, of(2)), burning(0, bob, of(3)), burning(0, cyd, of(4))}}),
		written(bob, api.Letter{Kind: api.LetterMany, Parts: []api.Letter{burning(0, ann, of(2)), burning(0, bob, of(3000))}}), // refused: nothing leaves
		burn(bob, 0, cyd, 5))
	w.stand(t, w.behind(t, 1)).wantStages(t, "one", 3, 1, 1, 1, 1, 0)
	w.stand(t, w.behind(t, 4)).wantStages(t, "four", 3, 3, 3, 3, 1, 0)
	w.wantDue(t, "four", 0, 1, 2, 3)
	for _, index := range []int{2, 0, 3, 1} {
		w.wantClaim(t, "four", dan, w.c.Now(), index)
	}
	w.wantDue(t, "four are paid")
	w.stand(t, w.last()).wantDue(t, "five", 4)
}
