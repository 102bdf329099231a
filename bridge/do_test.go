package bridge

import (
	"bytes"
	"fmt"
	"math"
	"slices"
	"testing"

	"causeway/api"
)

// grown is one in which so many letters follow the tokens, and all are followed. The entries are 5 and the letters.
func grown(t testing.TB, n int) *both {
	t.Helper()
	x := newBoth(t, usual()).ahead(t, blockAt(1, ready()...))
	for l := letters(n); len(l) > 0; l = l[min(len(l), 256):] {
		x.ahead(t, blockAt(1, l[:min(len(l), 256)]...))
	}
	return x.ahead(t, followBy(3))
}

// pending is how many assertions are.
func (x *both) pending() int { return len(x.said.contract.Pending()) }

func codes(n, code int) []int { return slices.Repeat([]int{code}, n) }

// wantMade wants an order to make just these operations, which come to these Codes; and if there are none, no block.
func (x *both) wantMade(t testing.TB, what string, o api.Order, ops []api.Op, codes ...int) api.Answer {
	t.Helper()
	height := x.bridge.chain.Height()
	a := x.want(t, what, o, codes...)
	if !slices.EqualFunc(a.Ops, ops, sameOp) || a.Back != 0 || a.Stage != 0 {
		t.Errorf("%s: %s, not %s", what, textOfOps(a.Ops), textOfOps(ops))
	}
	if got := x.bridge.chain.Height() - height; got != min(1, len(ops)) {
		t.Errorf("%s: %d blocks are made", what, got)
	}
	return a
}

func TestP23_5_Block(t *testing.T) {
	x := newBoth(t, usual())
	x.want(t, "none", blockAt(0))
	x.want(t, "of all sorts", blockAt(5, list(0), list(0), stop(0, 1), stop(0, 1), deposit(ann, 0, bob, of(3), 100), stop(0, 0), deposit(ann, 0, bob, of(3), 100), api.Op{Kind: 1, By: ann, Token: 4}, send(ann), confirm(ann)),
		0, 142, 0, 143, 143, 0, 0, 183, 0, 164)
	a := x.want(t, "the second one", blockAt(5, send(bob, 7), deposit(ann, 0, bob, of(9), 0)), 0, 0)
	if a.Results[0].Number != 2 || a.Results[1].Number != 3 || len(a.Ops) != 0 {
		t.Errorf("%s", textOfAnswer(a))
	}
	x.refuse(t, "a time below the head's", 191, blockAt(4), blockAt(0), blockAt(4, send(bob, 1)))
	x.refuse(t, "a time that may not be", 191, blockAt(late+1), blockAt(math.MaxInt, send(bob, 1)))
	x.want(t, "at the same time", blockAt(5, send(bob, 1)), 0)
	x.want(t, "later, nothing is done", blockAt(50, confirm(ann), list(0)), 164, 142)
	x.refuse(t, "below a head that did nothing", 191, blockAt(49, send(ann)))
	x.want(t, "256 operations", blockAt(50, slices.Repeat([]api.Op{send(dan, 1)}, 256)...), codes(256, 0)...)
	x.want(t, "256 that may not be", blockAt(50, slices.Repeat([]api.Op{{Kind: 8}}, 256)...), codes(256, 181)...)
	x.refuseRaw(t, "257 operations", 231, orderBytes(blockAt(50, slices.Repeat([]api.Op{send(dan, 1)}, 257)...)))
	x.want(t, "at the greatest time", blockAt(late, send(ann)), 0)
	x.want(t, "and again", blockAt(late), []int{}...)
	x.refuse(t, "behind the greatest time", 191, blockAt(late-1), blockAt(late+1))
	x.probe(t, "blocks")
}

// Whether the contract takes an operation is not asked by the bridge: what may not be stands in its block with its Code.
func TestP23_5_BlockOfWhatMayNotBe(t *testing.T) {
	x := newBoth(t, usual()).ahead(t, blockAt(0, list(0)))
	for kind := 1; kind <= 13; kind++ {
		o := whole(kind)
		for _, op := range []api.Op{o, {Kind: kind}, {Kind: kind, By: oda}} {
			x.do(t, fmt.Sprint("kind ", kind), blockAt(3, op, op))
			x.wantTold(t, fmt.Sprint("kind ", kind))
		}
	}
	x.want(t, "a body that is too long", blockAt(3, send(ann, make([]byte, 4097)...), send(ann, make([]byte, 4096)...)), 181, 0)
	x.want(t, "numbers that may not be", blockAt(3, api.Op{Kind: 1, By: oda, Token: 64}, api.Op{Kind: 2, By: oda, Index: 2}, deposit(ann, 0, bob, of(1), full+1), fight(ann, 0), pick(ann, 1, 2), fight(ann, full+1), fight(ann, full)), 181, 181, 181, 181, 181, 181, 164)
}

func TestP23_5_Cut(t *testing.T) {
	for n := range 12 {
		can := min(n, 8)
		for _, count := range []int{0, 1, 2, 7, 8, 9, 10, full, math.MaxInt} {
			x := newBoth(t, usual())
			for i := range n {
				x.ahead(t, blockAt(i, send(ann, byte(i))))
			}
			what := fmt.Sprintf("%d of %d", count, n)
			if count > can {
				x.refuse(t, what, 192, cutOf(count))
				x.want(t, what+", and then all", cutOf(can))
			} else {
				x.want(t, what, cutOf(count))
				x.refuse(t, what, 192, cutOf(can-count+1))
				x.want(t, what+", and the rest", cutOf(can-count))
			}
			x.refuse(t, what, 192, cutOf(1))
			x.want(t, what, cutOf(0))
			x.probe(t, what)
		}
	}
}

// The node stays as it is behind a cut, till it follows.
func TestP23_5_CutAndFollow(t *testing.T) {
	x := grown(t, 40)
	supply := x.bridge.Supply(0)
	for i := range 6 {
		x.ahead(t, blockAt(2+i, deposit(ann, 0, bob, of(uint64(1<<i)), 100), send(dan, byte(i))))
	}
	x.ahead(t, followBy(2))
	if x.bridge.Supply(0) != of(supply[0]+63) {
		t.Errorf("the supply is %v", x.bridge.Supply(0))
	}
	held := x.bridge.Held(0)
	x.want(t, "cut", cutOf(4))
	if x.bridge.Held(0) != of(held[0]-4-8-16-32) || x.bridge.Supply(0) != of(supply[0]+63) {
		t.Errorf("behind a cut %v are held, the supply is %v", x.bridge.Held(0), x.bridge.Supply(0))
	}
	for i, back := range []int{8, 0, 0} {
		if a := x.want(t, "follow", followBy(1+i)); a.Back != back || a.Stage != 0 || len(a.Ops) != 0 {
			t.Errorf("follow: %s, not %d back", textOfAnswer(a), back)
		}
	}
	if x.bridge.Supply(0) != of(supply[0]+3) {
		t.Errorf("the supply is %v", x.bridge.Supply(0))
	}
	// Lost, and others in their place, ahead of following.
	x.ahead(t, cutOf(2), blockAt(9, send(dan, 1), deposit(ann, 0, bob, of(5), 100)), blockAt(9, send(dan, 2)))
	if a := x.want(t, "follow", followBy(16)); a.Back != 4 {
		t.Errorf("follow: %s, not 4 back", textOfAnswer(a))
	}
	// The same ones again.
	x.ahead(t, cutOf(1), blockAt(9, send(dan, 2)))
	if a := x.want(t, "follow", followBy(16)); a.Back != 0 {
		t.Errorf("follow: %s, not 0 back", textOfAnswer(a))
	}
	x.probe(t, "cut and follow")
}

func TestP23_5_FollowWorkers(t *testing.T) {
	x := newBoth(t, usual()).ahead(t, blockAt(1, ready()...))
	for _, workers := range []int{0, 17, 18, 256, 257, full, math.MaxInt} {
		x.refuse(t, fmt.Sprint(workers, " workers"), 1, followBy(workers))
	}
	if x.bridge.Supply(0) != (api.Wide{}) {
		t.Errorf("the supply is %v", x.bridge.Supply(0))
	}
	for workers := 1; workers <= 16; workers++ {
		x.want(t, fmt.Sprint(workers, " workers"), blockAt(1, letters(workers)...), codes(workers, 0)...)
		x.want(t, fmt.Sprint(workers, " workers"), followBy(workers))
	}
	for _, workers := range []int{0, 17} {
		x.refuse(t, fmt.Sprint(workers, " workers, nothing new"), 1, followBy(workers))
	}
	x.probe(t, "workers")
}

func TestP23_5_Assert(t *testing.T) {
	x := newBoth(t, usual())
	x.refuse(t, "no entries", 212, assertAt(0, ann), assertAt(math.MaxInt, ann))
	x.ahead(t, blockAt(7, ready()...))
	x.refuse(t, "nothing is followed", 212, assertAt(7, ann))
	x.ahead(t, followBy(1))
	x.refuse(t, "a time below the head's", 191, assertAt(6, ann), assertAt(0, ann))
	x.refuse(t, "a time that may not be", 191, assertAt(late+1, ann), assertAt(math.MaxInt, ann))
	a := x.wantMade(t, "five entries", assertAt(7, ann), []api.Op{post(ann, x.right(t, 5))}, 0)
	if a.Results[0].Number != 1 || len(a.Results[0].Pays) != 0 {
		t.Errorf("%s", textOfAnswer(a))
	}
	x.refuse(t, "nothing new", 212, assertAt(7, ann), assertAt(6, bob))
	x.ahead(t, blockAt(8, letters(3)...))
	x.refuse(t, "nothing new is followed", 212, assertAt(8, bob))
	x.ahead(t, followBy(1))
	x.wantMade(t, "three more", assertAt(9, bob), []api.Op{post(bob, x.right(t, 8))}, 0)
	x.want(t, "the first one is confirmed", blockAt(107, confirm(dan)), 0)
	x.refuse(t, "nothing new", 212, assertAt(107, cyd))
	x.probe(t, "assert")
}

// A node that is behind what is asserted; a lie that is pending, or confirmed.
func TestP23_5_AssertBehindAndUnderLies(t *testing.T) {
	x := grown(t, 10).ahead(t, blockAt(2, letters(4)...))
	x.ahead(t, blockAt(2, post(ann, x.right(t, 17))))
	x.refuse(t, "the node is behind", 211, assertAt(2, bob), assertAt(0, bob))
	x.ahead(t, followBy(1))
	x.wantMade(t, "no more", assertAt(2, bob), []api.Op{post(bob, x.right(t, 19))}, 0)
	x.ahead(t, blockAt(3, letters(2)...), followBy(1))
	x.ahead(t, blockAt(3, post(cyd, x.lie(t, 20))))
	x.refuse(t, "a lie is pending", 212, assertAt(3, bob))
	x.ahead(t, cutOf(1))
	x.wantMade(t, "it is lost", assertAt(3, bob), []api.Op{post(bob, x.right(t, 21))}, 0)
	x.ahead(t, cutOf(1), blockAt(3, post(cyd, x.lie(t, 20))), blockAt(103, confirm(ann), confirm(ann), confirm(ann)))
	x.refuse(t, "a lie is confirmed", 212, assertAt(103, bob))
	x.ahead(t, blockAt(104, letters(1)...))
	x.refuse(t, "a lie is confirmed", 212, assertAt(104, bob))
	x.probe(t, "lies")
}

// As many as may be pending: the operation is told, and refused in its block.
func TestP23_5_AssertFull(t *testing.T) {
	x := grown(t, 40)
	for i := range 32 {
		x.ahead(t, blockAt(2, post(ann, x.right(t, 1+i))))
	}
	x.wantMade(t, "one too many", assertAt(2, bob), []api.Op{post(bob, x.right(t, 45))}, 163)
	x.want(t, "one is confirmed", blockAt(102, confirm(ann)), 0)
	x.wantMade(t, "one more", assertAt(102, bob), []api.Op{post(bob, x.right(t, 45))}, 0)
	if x.pending() != 32 {
		t.Errorf("%d are pending", x.pending())
	}
}

// Very many entries: an assertion goes over MaxSpan (1024) of them at most.
func TestP23_5_AssertSpan(t *testing.T) {
	t.Parallel()
	x := grown(t, 1100)
	x.wantMade(t, "1024", assertAt(2, bob), []api.Op{post(bob, x.right(t, 1024))}, 0)
	x.wantMade(t, "the rest", assertAt(2, bob), []api.Op{post(bob, x.right(t, 1105))}, 0)
	x.refuse(t, "no more", 212, assertAt(2, bob))
}

func TestP23_5_Watch(t *testing.T) {
	x := newBoth(t, usual())
	for _, workers := range []int{0, 17, 256, math.MaxInt} {
		x.refuse(t, fmt.Sprint(workers, " workers"), 210, watchAt(0, wes, workers), watchAt(late, wes, workers))
		x.refuse(t, "a time that may not be, ahead of the workers", 1, watchAt(late+1, wes, workers), watchAt(math.MaxInt, wes, workers))
	}
	x.refuse(t, "a time that may not be", 1, watchAt(late+1, wes, 1))
	for _, workers := range []int{1, 2, 15, 16} {
		x.wantMade(t, "nothing", watchAt(0, wes, workers), nil)
		x.wantMade(t, "nothing", watchAt(late, wes, workers), nil)
	}
	x = grown(t, 20)
	x.ahead(t, blockAt(7, post(ann, x.right(t, 4)), post(bob, x.lie(t, 9)), post(cyd, x.right(t, 12))))
	x.refuse(t, "no workers", 210, watchAt(7, wes, 0), watchAt(7, wes, 17))
	x.refuse(t, "a time below the head's", 191, watchAt(6, wes, 1), watchAt(0, wes, 16))
	x.probe(t, "a lie is pending")
	a := x.wantMade(t, "a lie", watchAt(8, wes, 5), []api.Op{challenge(wes, 2, x.shown(t, 4, 9))}, 0)
	if !slices.Equal(a.Results[0].Pays, []api.Pay{{Why: 3, To: wes, Amount: of(5), Index: 2}, {Why: 2, To: cyd, Amount: of(5), Index: 3}}) || a.Results[0].Number != 2 {
		t.Errorf("%s", textOfAnswer(a))
	}
	x.wantMade(t, "no more", watchAt(8, wes, 5), nil)
	x.wantMade(t, "nothing, at a time below the head's: no block is made", watchAt(3, wes, 5), nil)
	x.ahead(t, blockAt(9, post(bob, x.lie(t, 25))))
	x.wantMade(t, "its window is over", watchAt(109, wes, 1), nil)
	x.wantMade(t, "its window is open", watchAt(108, wes, 1), []api.Op{challenge(wes, 4, x.shown(t, 4, 25))}, 0)
	x.probe(t, "watch")
}

// A duel that goes down to one entry: each stroke is one operation.
func TestP23_5_WatchInDuel(t *testing.T) {
	for _, wrong := range []int{0, 1, 22, 43, 44} {
		x := grown(t, 40) // 45 entries
		said := func(count int) api.Commit {
			if count > wrong {
				return x.lie(t, count)
			}
			return x.right(t, count)
		}
		x.ahead(t, blockAt(7, post(bob, said(45))))
		x.wantMade(t, "too many entries", watchAt(8, wes, 3), []api.Op{fight(wes, 1)}, 0)
		x.refuse(t, "a time below the head's", 191, blockAt(7))
		x.wantMade(t, "the liar's turn", watchAt(9, wes, 3), nil)
		seen := ""
		for x.pending() > 0 {
			d := x.said.contract.Duels()[0]
			switch d.State {
			case 1:
				middle := (d.Low.Count + d.High.Count) / 2
				x.want(t, "split", blockAt(9, split(bob, 1, wes, said(middle))), 0)
				x.refuse(t, "a time below the head's", 191, watchAt(8, wes, 1))
			case 2:
				index := 0
				if d.Middle.Count <= wrong {
					index = 1
				}
				x.wantMade(t, "pick", watchAt(9, wes, 2), []api.Op{pick(wes, 1, index)}, 0)
				seen += "p"
			case 3:
				x.probe(t, "one entry is left")
				a := x.wantMade(t, "prove", watchAt(9, wes, 2), []api.Op{prove(wes, 1, x.shown(t, d.Low.Count, d.Low.Count+1))}, 0)
				if d.Low.Count != wrong || !slices.Equal(a.Results[0].Pays, []api.Pay{{Why: 3, To: wes, Amount: of(5), Index: 1}, {Why: 2, To: wes, Amount: of(5), Index: 1}}) {
					t.Errorf("the lie at %d is proved at %d: %s", wrong, d.Low.Count, textOfAnswer(a))
				}
				seen += "!"
			}
		}
		if len(seen) < 6 || seen[len(seen)-1] != '!' {
			t.Errorf("the lie at %d: %s", wrong, seen)
		}
		x.wantMade(t, "over", watchAt(9, wes, 2), nil)
	}
}

// The liar does not move; others do not either.
func TestP23_5_WatchWhatIsOver(t *testing.T) {
	x := grown(t, 40)
	x.ahead(t, blockAt(7, post(bob, x.lie(t, 45))), watchAt(7, wes, 1), blockAt(8, fight(ann, 1), fight(cyd, 1)))
	x.wantMade(t, "in time", watchAt(17, wes, 1), nil)
	x.wantMade(t, "in time, by others", watchAt(17, dan, 1), []api.Op{fight(dan, 1)}, 0)
	x.ahead(t, cutOf(1))
	y := x.again(t, "by another one")
	y.wantMade(t, "by another one", watchAt(18, dan, 1), []api.Op{fight(dan, 1), expire(dan, 1, wes)}, 0, 0)
	x.probe(t, "ahead of the end")
	x.wantMade(t, "behind the end", watchAt(18, wes, 1), []api.Op{expire(wes, 1, wes)}, 0)
	if x.pending() != 0 {
		t.Errorf("%d are pending", x.pending())
	}
	x.ahead(t, cutOf(1))
	// All turns are over: the first end drops it, the others are refused in their block.
	a := x.wantMade(t, "all turns are over", watchAt(19, wes, 4), []api.Op{expire(wes, 1, wes), expire(wes, 1, ann), expire(wes, 1, cyd)}, 0, 186, 186)
	if len(a.Results[0].Pays) != 4 {
		t.Errorf("%s", textOfAnswer(a))
	}
}

// manyOnes are so many people.
func manyOnes(n int) []api.Address {
	var l []api.Address
	for i := range n {
		l = append(l, api.Address{50, byte(i >> 8), byte(i)})
	}
	return l
}

// embattled is one in which an assertion of ann's over 45 entries has so many duels; it is right, or a lie.
func embattled(t testing.TB, right bool, n int) *both {
	t.Helper()
	x := grown(t, 40)
	c := x.lie(t, 45)
	if right {
		c = x.right(t, 45)
	}
	x.ahead(t, blockAt(7, post(ann, c)))
	for l := manyOnes(n); len(l) > 0; l = l[min(len(l), 256):] {
		var ops []api.Op
		for _, who := range l[:min(len(l), 256)] {
			ops = append(ops, fight(who, 1))
		}
		x.ahead(t, blockAt(7, ops...))
	}
	return x
}

// More than MaxOps: the first 256 are done, the others by the next order.
func TestP23_5_MoreThanMaxOps(t *testing.T) {
	people := manyOnes(300)
	x := embattled(t, true, 300)
	var splits, ends []api.Op
	for _, who := range people {
		splits, ends = append(splits, split(ann, 1, who, x.right(t, 22))), append(ends, expire(wes, 1, who))
	}
	x.wantMade(t, "256 of 300 splits", defendAt(8, ann), splits[:256], codes(256, 0)...)
	x.wantMade(t, "the other 44", defendAt(8, ann), splits[256:], codes(44, 0)...)
	x.wantMade(t, "no more", defendAt(8, ann), nil)
	x.wantMade(t, "in time", watchAt(18, wes, 1), nil)
	x.wantMade(t, "256 of 300 ends", watchAt(19, wes, 16), ends[:256], codes(256, 0)...)
	x.wantMade(t, "the other 44", watchAt(19, wes, 1), ends[256:], codes(44, 0)...)
	x.wantMade(t, "no more", watchAt(19, wes, 1), nil)
	if l := x.said.contract.Pending(); len(l) != 1 || l[0].Duels != 0 {
		t.Errorf("pending: %+v", l)
	}

	x = embattled(t, false, 300)
	a := x.wantMade(t, "a lie", watchAt(18, wes, 1), append([]api.Op{fight(wes, 1)}, ends[:255]...), append([]int{0, 0}, codes(254, 186)...)...)
	if len(a.Results[1].Pays) != 302 || x.pending() != 0 {
		t.Errorf("%d pays, %d are pending", len(a.Results[1].Pays), x.pending())
	}
	x.ahead(t, cutOf(1))
	x.wantMade(t, "just as many as may be", defendAt(18, ann), nil)
}

// Whoever makes operations: the first 256 alone are done, and answered without what is left out.
func TestP23_5_MadeAreCut(t *testing.T) {
	for _, n := range []int{0, 1, 255, 256, 257, 300, 700} {
		b := newBoth(t, usual()).bridge
		ops := slices.Repeat([]api.Op{send(ann, 9)}, n)
		a, e := b.made(5, ops...)
		k := min(n, 256)
		if e != 0 || len(a.Ops) != k || len(a.Results) != k || cap(a.Ops) != len(a.Ops) || b.chain.Contract().Inbox().Len() != k || b.chain.Height() != min(n, 1) {
			t.Errorf("%d operations: %d, %d ops with room for %d, %d results, height %d", n, int(e), len(a.Ops), cap(a.Ops), len(a.Results), b.chain.Height())
		}
	}
}

func TestP23_5_Defend(t *testing.T) {
	x := newBoth(t, usual())
	x.refuse(t, "a time that may not be", 1, defendAt(late+1, ann), defendAt(math.MaxInt, ann))
	x.wantMade(t, "nothing", defendAt(0, ann), nil)
	x.wantMade(t, "nothing", defendAt(late, ann), nil)
	x = embattled(t, true, 3)
	people := manyOnes(3)
	x.refuse(t, "a time that may not be", 1, defendAt(late+1, ann))
	x.refuse(t, "a time below the head's", 191, defendAt(6, ann), defendAt(0, ann))
	x.wantMade(t, "by others", defendAt(8, bob), nil)
	x.wantMade(t, "by others, at a time below the head's", defendAt(2, bob), nil)
	x.wantMade(t, "too late", defendAt(18, ann), nil)
	x.probe(t, "ahead of defending")
	a := x.wantMade(t, "all", defendAt(17, ann), []api.Op{split(ann, 1, people[0], x.right(t, 22)), split(ann, 1, people[1], x.right(t, 22)), split(ann, 1, people[2], x.right(t, 22))}, 0, 0, 0)
	if a.Results[1].Number != 1 {
		t.Errorf("%s", textOfAnswer(a))
	}
	x.wantMade(t, "their turn", defendAt(27, ann), nil)
	x.want(t, "one picks", blockAt(20, pick(people[1], 1, 1)), 0)
	x.wantMade(t, "mine", defendAt(21, ann), []api.Op{split(ann, 1, people[1], x.right(t, 33))}, 0)
	a = x.wantMade(t, "theirs are over", defendAt(28, ann), []api.Op{expire(ann, 1, people[0]), expire(ann, 1, people[2])}, 0, 0)
	if !slices.Equal(a.Results[0].Pays, []api.Pay{{Why: 3, To: ann, Amount: of(5), Index: 1}}) {
		t.Errorf("%s", textOfAnswer(a))
	}
	x.probe(t, "defended")
	x.wantMade(t, "all are over", defendAt(40, ann), []api.Op{expire(ann, 1, people[1])}, 0)
	x.wantMade(t, "no more", defendAt(40, ann), nil)
	x.want(t, "it stands", blockAt(107, confirm(dan)), 0)
}

// A node that has not executed the middle says nothing.
func TestP23_5_DefendBehind(t *testing.T) {
	x := grown(t, 10).ahead(t, blockAt(2, letters(30)...)) // 15 of 45 are followed
	x.ahead(t, blockAt(2, post(ann, x.right(t, 45)), fight(wes, 1)))
	x.wantMade(t, "the node is behind", defendAt(3, ann), nil)
	x.ahead(t, followBy(1))
	x.wantMade(t, "the node has followed", defendAt(3, ann), []api.Op{split(ann, 1, wes, x.right(t, 22))}, 0)
}

// leafy is one with leaves: by the row of letters 0 and 3 of each six burn, and 5 cancels. All is followed, and what comes behind so many entries is confirmed.
func leafy(t testing.TB, confirmed int) *both {
	t.Helper()
	x := grown(t, 20)
	if confirmed > 0 {
		x.ahead(t, blockAt(2, post(ann, x.right(t, confirmed))), blockAt(102, confirm(ann)))
	}
	return x
}

// claimed is the claim of a leaf, as the courier of the words tells it.
func (x *both) claimed(t testing.TB, by api.Address, index int) api.Op {
	t.Helper()
	n, c := x.said.node, x.said.contract.Confirmed()
	leaf, e := n.Leaf(index)
	path, f := n.Path(index, c.Leaves)
	if e != 0 || f != 0 {
		t.Fatalf("leaf %d: %d, %d", index, int(e), int(f))
	}
	return claim(by, leaf, path...)
}

func TestP23_5_Claim(t *testing.T) {
	x := leafy(t, 0)
	leaves := x.said.node.Leaves()
	if leaves < 6 {
		t.Fatalf("%d leaves", leaves)
	}
	x.refuse(t, "no such leaf", 220, claimAt(1, dan, leaves), claimAt(1, dan, math.MaxInt), claimAt(math.MaxInt, dan, leaves))
	x.refuse(t, "nothing is confirmed", 221, claimAt(1, dan, 0), claimAt(1, dan, leaves-1), claimAt(0, dan, 0))
	x.probe(t, "nothing is confirmed")
	x = leafy(t, 12)
	n := x.said.contract.Confirmed().Leaves
	if n < 2 || n >= leaves {
		t.Fatalf("%d leaves are confirmed", n)
	}
	x.refuse(t, "not yet", 221, claimAt(102, dan, n), claimAt(102, dan, leaves-1))
	x.refuse(t, "no such leaf", 220, claimAt(102, dan, leaves))
	x.refuse(t, "a time below the head's", 191, claimAt(101, dan, 0), claimAt(0, dan, n-1))
	x.refuse(t, "a time that may not be", 191, claimAt(late+1, dan, 0), claimAt(math.MaxInt, dan, 0))
	x.probe(t, "some are confirmed")
	for index := n - 1; index >= 0; index-- {
		l := sure(x.said.node.Leaf(index))
		held := x.bridge.Held(l.Token)
		a := x.wantMade(t, "claim", claimAt(102, dan, index), []api.Op{x.claimed(t, dan, index)}, 0)
		if !slices.Equal(a.Results[0].Pays, []api.Pay{{Why: 1, Token: l.Token, To: l.To, Amount: l.Amount, Index: index}}) || x.bridge.Held(l.Token) != of(held[0]-l.Amount[0]) {
			t.Errorf("%s", textOfAnswer(a))
		}
		x.refuse(t, "twice", 222, claimAt(102, dan, index), claimAt(0, ann, index), claimAt(math.MaxInt, ann, index))
		x.want(t, "the operation itself", blockAt(102, a.Ops[0]), 147)
	}
	x.probe(t, "all are paid")
	x.ahead(t, cutOf(2))
	x.wantMade(t, "its block is lost", claimAt(102, bob, 0), []api.Op{x.claimed(t, bob, 0)}, 0)
}

// Another outbox is confirmed than the node's, or of more leaves than it has; and a token that is not listed, or of which too little is held: then the claim is told, and refused in its block.
func TestP23_5_ClaimUnderLies(t *testing.T) {
	x := grown(t, 20)
	c := x.right(t, 25)
	for what, lie := range map[string]func(c *api.Commit){
		"another outbox": func(c *api.Commit) { c.Outbox[31] ^= 1 }, "more leaves": func(c *api.Commit) { c.Leaves++ }, "fewer leaves": func(c *api.Commit) { c.Leaves-- },
	} {
		y, said := x.again(t, what), c
		lie(&said)
		y.ahead(t, blockAt(2, post(ann, said)), blockAt(102, confirm(ann)))
		y.refuse(t, what, 223, claimAt(102, dan, 0), claimAt(102, dan, c.Leaves-2), claimAt(101, dan, 0), claimAt(math.MaxInt, dan, 0))
		if said.Leaves < c.Leaves {
			y.refuse(t, what, 221, claimAt(102, dan, c.Leaves-1))
		}
		y.probe(t, what)
	}
	x = newBoth(t, usual()).ahead(t, blockAt(0, list(0), token(0), deposit(ann, 0, bob, of(9), 100), burn(bob, 0, cyd, 9)), followBy(1))
	said := x.right(t, 3)
	said.Count = 1 // all that is in the inbox behind the cut; the node does not follow
	x.ahead(t, cutOf(1), blockAt(0, list(0), deposit(ann, 0, bob, of(8), 100)), blockAt(0, post(ann, said)))
	x.want(t, "a lie", blockAt(100, confirm(ann)), 0)
	x.wantMade(t, "too little is held", claimAt(100, dan, 0), []api.Op{x.claimed(t, dan, 0)}, 146)
	x.wantMade(t, "again", claimAt(100, dan, 0), []api.Op{x.claimed(t, dan, 0)}, 146)
	x.ahead(t, blockAt(100, deposit(ann, 0, dan, of(1), 100)))
	x.wantMade(t, "just enough is held", claimAt(100, dan, 0), []api.Op{x.claimed(t, dan, 0)}, 0)
}

func TestP23_5_Look(t *testing.T) {
	x := leafy(t, 12)
	leaves, confirmed := x.said.node.Leaves(), x.said.contract.Confirmed().Leaves
	x.ahead(t, blockAt(103, post(ann, x.right(t, 20))), claimAt(103, dan, 1))
	asserted := x.said.contract.Top().Leaves
	if !(1 < confirmed && confirmed < asserted && asserted < leaves) {
		t.Fatalf("%d, %d, %d", confirmed, asserted, leaves)
	}
	for index := range leaves + 3 {
		stage := 0
		switch {
		case index == 1:
			stage = 4
		case index < confirmed:
			stage = 3
		case index < asserted:
			stage = 2
		case index < leaves:
			stage = 1
		}
		if a := x.want(t, "look", lookAt(index)); a.Stage != stage || len(a.Ops) != 0 || a.Back != 0 {
			t.Errorf("look at %d: %s, not %d", index, textOfAnswer(a), stage)
		}
	}
	for _, index := range []int{full, late, math.MaxInt} {
		if a := x.want(t, "look", lookAt(index)); a.Stage != 0 {
			t.Errorf("look at %d: %s", index, textOfAnswer(a))
		}
	}
	x.probe(t, "look")
}

// Bytes that are no order: nothing happens, wherever one stands.
func TestP23_5_NoOrder(t *testing.T) {
	for _, x := range []*both{newBoth(t, usual()), leafy(t, 12), embattled(t, false, 3)} {
		now := x.said.time()
		for _, b := range [][]byte{nil, {}, {0}, {9}, {255}, {1}, {1, 0}, {1, 0, 1}, {1, 1, 0, 0}, {2}, {2, 0, 0}, {2, 2, 0, 1}, {3}, {4, 0}, {8}, {8, 0, 0}, make([]byte, 100), headerBytes(usual()), make([]byte, mega+1)} {
			x.refuseRaw(t, "no order", 231, b)
		}
		for _, o := range []api.Order{blockAt(now, send(ann, 1)), blockAt(now, send(ann, 1), api.Op{Kind: 14}), cutOf(1), followBy(1), assertAt(now, ann), watchAt(now, wes, 1), defendAt(now, ann), claimAt(now, dan, 0), lookAt(0)} {
			b := orderBytes(o)
			x.refuseRaw(t, "one byte less", 231, b[:len(b)-1])
			x.refuseRaw(t, "one byte more", 231, append(bytes.Clone(b), 0))
		}
		x.refuseRaw(t, "very many bytes", 231, append(orderBytes(blockAt(now)), make([]byte, mega)...))
		x.probe(t, "no order")
	}
}

func TestP23_7_HeldAndSupply(t *testing.T) {
	x := newBoth(t, usual())
	want := func(token int, held, supply api.Wide) {
		t.Helper()
		x.wantTold(t, fmt.Sprint("token ", token))
		if a, b := x.bridge.Held(token), x.bridge.Supply(token); a != held || b != supply {
			t.Errorf("of token %d %v are held, the supply is %v, not %v and %v", token, a, b, held, supply)
		}
	}
	for _, token := range []int{math.MinInt, -64, -1, 0, 1, 63, 64, 65, 1 << 32, math.MaxInt} {
		want(token, of(0), of(0))
	}
	x.ahead(t, blockAt(0, list(0), list(63), list(5), deposit(ann, 0, bob, of(50), 100), deposit(ann, 63, bob, most(), 100), token(0), token(5)))
	want(0, of(50), of(0))
	x.ahead(t, followBy(1))
	want(0, of(50), of(0)) // a ticket: the token was not there
	want(63, most(), of(0))
	want(5, of(0), of(0))
	x.ahead(t, blockAt(0, deposit(ann, 0, bob, of(70), 100), deposit(ann, 0, bob, of(7), 99), token(63), retry(dan, 2)))
	want(0, of(127), of(0))
	x.ahead(t, followBy(1))
	want(0, of(127), of(70))
	want(63, most(), most())
	for _, token := range []int{math.MinInt, -1, 1, 62, 64, 128, 1<<32 + 63, math.MaxInt} {
		want(token, of(0), of(0))
	}
	x.want(t, "too much", blockAt(0, deposit(ann, 63, bob, of(1), 100)), 145)
	x.want(t, "bonds are not held", blockAt(0, post(ann, x.right(t, 3))), 0)
	want(0, of(127), of(70))
	x.ahead(t, cutOf(1), cutOf(1))
	want(0, of(127), of(70))
	x.ahead(t, cutOf(1))
	want(0, of(50), of(70)) // the node has not followed yet
	x.ahead(t, followBy(1))
	want(0, of(50), of(0))
}
