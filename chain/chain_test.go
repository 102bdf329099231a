package chain

import (
	"fmt"
	"math"
	"reflect"
	"testing"

	"causeway/api"
	"causeway/contract"
)

func TestErrors_Numbers(t *testing.T) {
	for _, x := range []struct {
		got    api.Errno
		wanted int
	}{
		{api.OK, 0}, {api.ErrArg, 1}, {api.ErrChainBlock, 190}, {api.ErrChainTime, 191}, {api.ErrChainCut, 192}, {api.ErrChainFull, 193}, {api.ErrChainNone, 194},
		{api.ErrContractConfig, 180}, {api.ErrEscrowThere, 142},
	} {
		if int(x.got) != x.wanted {
			t.Errorf("%d, not %d", int(x.got), x.wanted)
		}
	}
}

func TestLimits(t *testing.T) {
	if api.MaxOps != 256 || api.MaxReorg != 8 || api.MaxTime != 4611686018427387904 || api.MaxCount != 1099511627776 {
		t.Error("the limits are others")
	}
}

// The chapter's examples, row by row.
func TestExamples(t *testing.T) {
	b := newBoth(t, usual())
	b.wantHeight(t, 0, 0)
	b.cut(t, "none", 0, 0).cut(t, "one", 1, 192)
	for _, height := range []int{0, 1} {
		if _, e := b.chain.Block(height); e != 194 {
			t.Errorf("Block(%d): %d", height, int(e))
		}
	}
	b.refuse(t, "time -1", blockOf(-1), 191)
	b.want(t, "list, and again", blockOf(5, list(oda, 0), list(oda, 0)), 0, 142)
	b.refuse(t, "time 4", blockOf(4), 191)
	b.refuse(t, "257 operations", blockOf(5, make([]api.Op, 257)...), 190)
	b.want(t, "none", blockOf(5))
	b.wantHeight(t, 2, 5)
	b.cut(t, "three", 3, 192).cut(t, "two", 2, 0)
	b.wantHeight(t, 0, 0)
	b.cut(t, "one", 1, 192)
	if there, stopped := b.chain.Contract().Listed(0); there || stopped {
		t.Errorf("Listed(0): %v, %v", there, stopped)
	}
	b.empty(t, 6, 9).cut(t, "nine", 9, 192).cut(t, "eight", 8, 0).wantHeight(t, 1, 6)
	b.cut(t, "one", 1, 192)

	b = newBoth(t, usual()).empty(t, 1, 3).cut(t, "one", 1, 0).empty(t, 1, 2)
	b.wantHeight(t, 4, 1)
	b.cut(t, "four", 4, 0).cut(t, "five", 5, 192)
	b = newBoth(t, usual()).empty(t, 1, 3).cut(t, "one", 1, 0).empty(t, 1, 2)
	b.cut(t, "five", 5, 192).cut(t, "four", 4, 0).wantHeight(t, 0, 0)

	wantNew(t, api.Config{}, 180)
}

func (b both) wantHeight(t testing.TB, height, time int) {
	t.Helper()
	if b.chain.Height() != height || b.chain.Time() != time {
		t.Errorf("Height is %d, Time %d, not %d, %d", b.chain.Height(), b.chain.Time(), height, time)
	}
}

func wantNew(t testing.TB, config api.Config, wanted int) {
	t.Helper()
	c, e := New(config)
	if int(e) != wanted || (c == nil) != (wanted != 0) {
		t.Errorf("New(%+v): %v, error %d, not %d", config, c, int(e), wanted)
		return
	}
	if c != nil {
		both{c, &said{config: config}}.wantTold(t, fmt.Sprintf("New(%+v)", config))
	}
}

func TestP19_1_New(t *testing.T) {
	seconds := map[int]bool{math.MinInt: false, -1: false, 0: false, 1: true, 100: true, full: true, full + 1: false, late: false, math.MaxInt: false}
	bonds := map[api.Wide]bool{{}: true, of(7): true, {math.MaxUint64, math.MaxUint64, math.MaxUint64}: true, {3: 1}: false, {3: 1 << 63}: false, {math.MaxUint64, math.MaxUint64, math.MaxUint64, math.MaxUint64}: false}
	for window, w := range seconds {
		for turn, u := range seconds {
			for bond, v := range bonds {
				wanted := 180
				if w && u && v {
					wanted = 0
				}
				wantNew(t, api.Config{Owner: oda, Admin: zed, Window: window, Turn: turn, Bond: bond}, wanted)
			}
		}
	}
	for _, owner := range []api.Address{{}, oda, zed} { // any, and the same for both too
		for _, admin := range []api.Address{{}, oda, zed} {
			wantNew(t, api.Config{Owner: owner, Admin: admin, Window: 1, Turn: 1}, 0)
		}
	}
}

func TestP19_1_WhatANewOneHas(t *testing.T) {
	b := newBoth(t, usual())
	b.wantHeight(t, 0, 0)
	fresh, _ := contract.New(usual())
	got := b.chain.Contract()
	if got == nil || got.Config() != usual() || !reflect.DeepEqual(tell(got), tell(fresh)) {
		t.Errorf("the contract is %+v", got)
	}
	if e := b.chain.Cut(1); e != 192 {
		t.Errorf("Cut(1): %d", int(e))
	}
}

// lists is so many operations, of which those of tokens that are not listed yet are done.
func lists(n int) []api.Op {
	var l []api.Op
	for i := range n {
		l = append(l, list(oda, i))
	}
	return l
}

func TestP19_2_HowManyOperations(t *testing.T) {
	for _, n := range []int{0, 1, 2, 64, 255, 256, 257, 258, 512, 1000} {
		b := newBoth(t, usual()).ahead(t, blockOf(5))
		if n > 256 {
			b.refuse(t, "too many", blockOf(5, lists(n)...), 190)
			b.refuse(t, "too many that may not be", blockOf(5, make([]api.Op, n)...), 190)
			for _, time := range []int{math.MinInt, -1, 4, late + 1, math.MaxInt} {
				b.refuse(t, "too many, at a wrong time", blockOf(time, lists(n)...), 190)
			}
			b.wantHeight(t, 1, 5)
			continue
		}
		var codes []int
		for i := range n {
			if i < 64 {
				codes = append(codes, 0)
			} else {
				codes = append(codes, 181) // no token has that number
			}
		}
		b.want(t, fmt.Sprint(n, " operations"), blockOf(5, lists(n)...), codes...).wantHeight(t, 2, 5)
	}
}

func TestP19_2_Times(t *testing.T) {
	for _, last := range []int{0, 1, 50, late - 1, late} {
		for _, x := range []struct {
			time int
			may  bool
		}{
			{math.MinInt, false}, {-1, false}, {0, last == 0}, {last - 1, false}, {last, true}, {last + 1, last < late}, {late - 1, last < late}, {late, true}, {late + 1, false}, {math.MaxInt, false},
		} {
			b := newBoth(t, usual()).ahead(t, blockOf(last))
			if x.may {
				b.want(t, fmt.Sprint("behind ", last), blockOf(x.time, list(oda, 1), send(ann, 1)), 0, 0).wantHeight(t, 2, x.time)
			} else {
				b.refuse(t, fmt.Sprint("behind ", last), blockOf(x.time, list(oda, 1)), 191).wantHeight(t, 1, last)
			}
		}
	}
	for _, x := range []struct{ time, wanted int }{{math.MinInt, 191}, {-1, 191}, {0, 0}, {1, 0}, {late - 1, 0}, {late, 0}, {late + 1, 191}, {math.MaxInt, 191}} {
		b := newBoth(t, usual())
		if x.wanted == 0 {
			b.want(t, "the first one", blockOf(x.time, list(oda, 1)), 0).wantHeight(t, 1, x.time)
		} else {
			b.refuse(t, "the first one", blockOf(x.time, list(oda, 1)), x.wanted).wantHeight(t, 0, 0)
		}
	}
}

// The head's time counts, not the contract's, which a block without an operation that is done does not turn.
func TestP19_2_TimeOfAHeadThatDidNothing(t *testing.T) {
	b := newBoth(t, usual()).ahead(t, blockOf(5, list(oda, 0)))
	b.want(t, "nothing is done", blockOf(9, list(oda, 0), list(ann, 1)), 142, 183)
	if now := b.chain.Contract().Now(); now != 5 {
		t.Errorf("Now is %d", now)
	}
	b.refuse(t, "below the head", blockOf(8, list(oda, 1)), 191)
	b.want(t, "no operation", blockOf(20))
	b.refuse(t, "below the head", blockOf(19, list(oda, 1)), 191)
	b.wantHeight(t, 3, 20)
	b.want(t, "at its time", blockOf(20, list(oda, 1)), 0)
	if now := b.chain.Contract().Now(); now != 20 {
		t.Errorf("Now is %d", now)
	}
}

// A chain of 2^40 blocks can not be made; its head can be laid by hand.
func TestP19_2_Full(t *testing.T) {
	for _, x := range []struct {
		height int
		b      api.Block
		wanted int
	}{
		{full - 1, blockOf(5), 0}, {full, blockOf(5), 193}, {full + 1, blockOf(5), 193}, {full, blockOf(late), 193},
		{full, blockOf(4), 191}, {full, blockOf(late + 1), 191}, {full, blockOf(4, make([]api.Op, 257)...), 190}, {full, blockOf(5, make([]api.Op, 257)...), 190}, {full, blockOf(5, make([]api.Op, 256)...), 193},
		{0, blockOf(5), 0}, {1, blockOf(5), 0},
	} {
		h := head{height: x.height, time: 5}
		if e := h.refuses(x.b); int(e) != x.wanted {
			t.Errorf("behind %d blocks, %s: %d, not %d", x.height, textOf(x.b), int(e), x.wanted)
		}
	}
	c, _ := New(usual())
	c.head.height = full
	was := tell(c.Contract())
	if l, e := c.Extend(blockOf(7, list(oda, 0))); e != 193 || len(l) != 0 || c.Height() != full || c.Time() != 0 || c.Cut(1) != 192 || !reflect.DeepEqual(tell(c.Contract()), was) {
		t.Errorf("Extend of a full one: %+v, %d", l, int(e))
	}
}

// What is refused changes nothing: not how many can be lost either.
func TestP19_2_RefusedExtendChangesNothing(t *testing.T) {
	for n := range 12 {
		for cut := range min(n, 8) + 1 {
			b := newBoth(t, usual()).empty(t, 5, n)
			b.cut(t, "ahead", cut, 0)
			wrong := []int{-1, late + 1, math.MinInt, math.MaxInt}
			if n > cut {
				wrong = append(wrong, 4, 0)
			}
			for _, time := range wrong {
				b.refuse(t, "a wrong time", blockOf(time, list(oda, 0)), 191)
				b.refuse(t, "both wrong", blockOf(time, lists(257)...), 190)
			}
			b.refuse(t, "too many", blockOf(5, lists(257)...), 190)
			can := min(n, 8) - cut
			b.cut(t, "one more than can be lost", can+1, 192)
			b.cut(t, "as many as can be lost", can, 0)
			b.wantHeight(t, max(0, n-8), min(5, 5*max(0, n-8)))
		}
	}
}

// Operations that are refused stand in their block, with their Codes, and change nothing.
func TestP19_2_RefusedOperationsStand(t *testing.T) {
	odd := api.Op{Kind: -7, By: ann, Token: 99, To: bob, Amount: api.Wide{1, 2, 3, 4}, Gas: -5, Number: math.MinInt, Index: math.MaxInt, Body: make([]byte, 1<<22+1), Path: make([]api.Digest, 70)}
	ops := []api.Op{odd, {}, list(oda, 3), list(oda, 3), list(ann, 4), deposit(ann, 5, bob, of(1), 100), deposit(ann, 3, bob, of(9), 100), confirm(ann), {Kind: 14}, send(bob, 1, 2), {Kind: 4, Body: make([]byte, 4097)}}
	b := newBoth(t, usual())
	b.want(t, "in part", blockOf(5, ops...), 181, 181, 0, 142, 183, 141, 0, 164, 181, 0, 181)
	results, e := b.chain.Results(1)
	if e != 0 || len(results) != len(ops) || results[6].Number != 0 || results[9].Number != 1 {
		t.Errorf("Results(1): %+v, %d", results, int(e))
	}
	block, e := b.chain.Block(1)
	if e != 0 || !sameBlock(block, blockOf(5, ops...)) {
		t.Errorf("Block(1): %s, %d", textOf(block), int(e))
	}
	was := tell(b.chain.Contract())
	b.want(t, "all", blockOf(6, odd, confirm(ann), list(oda, 3), api.Op{}), 181, 164, 142, 181)
	b.want(t, "256 that may not be", blockOf(6, make([]api.Op, 256)...), many(256, 181)...)
	if now := tell(b.chain.Contract()); !reflect.DeepEqual(now, was) {
		t.Errorf("the contract tells %+v, and told %+v", now, was)
	}
	b.wantHeight(t, 3, 6)
	b.cut(t, "two", 2, 0).want(t, "and another one", blockOf(5, confirm(ann), list(oda, 4)), 164, 0)
}

func many(n, code int) []int {
	l := make([]int, n)
	for i := range l {
		l[i] = code
	}
	return l
}

// Operations are done in their order, each at the block's time.
func TestP19_2_InOrderAndAtItsTime(t *testing.T) {
	b := newBoth(t, usual())
	b.want(t, "ahead of what it needs", blockOf(3, deposit(ann, 1, bob, of(4), 100), list(oda, 1), deposit(ann, 1, bob, of(5), 100), stop(oda, 1, 1), deposit(ann, 1, bob, of(6), 100)), 141, 0, 0, 0, 143)
	b.want(t, "later", blockOf(11, send(cyd, 7), send(dan, 8)), 0, 0)
	b.want(t, "at the same time", blockOf(11, send(ann, 9)), 0)
	entries, e := b.chain.Contract().Inbox().Entries(0, 4)
	wanted := []api.Entry{
		{Kind: 1, Sender: ann, Time: 3, Token: 1, To: bob, Amount: of(5), Gas: 100}, {Kind: 2, Sender: cyd, Time: 11, Body: []byte{7}}, {Kind: 2, Sender: dan, Time: 11, Body: []byte{8}}, {Kind: 2, Sender: ann, Time: 11, Body: []byte{9}},
	}
	wanted[0].Body = entries[0].Body // nil and empty are one
	if e != 0 || len(entries[0].Body) != 0 || !reflect.DeepEqual(entries, wanted) {
		t.Errorf("the entries are %+v, %d", entries, int(e))
	}
	// Windows and turns are reckoned from the block's time.
	b.ahead(t, blockOf(20, post(ann, api.Commit{Count: 4})))
	b.want(t, "one second too early", blockOf(119, confirm(ann)), 165)
	b.want(t, "just in time", blockOf(120, confirm(ann)), 0)
}

// The story: what each block is answered, what is told behind each.
func TestP19_2_TheStory(t *testing.T) {
	s := theStory()
	b := newBoth(t, usual())
	for i, block := range s.blocks {
		got, e := b.extend(t, fmt.Sprint("block ", i+1), block)
		if e != 0 || !sameResults(got, s.results[i]) {
			t.Errorf("block %d: %+v, %d, not %+v", i+1, got, int(e), s.results[i])
		}
		b.wantTold(t, fmt.Sprint("behind block ", i+1))
	}
}

func TestP19_3_Cut(t *testing.T) {
	for _, n := range []int{0, 1, 2, 7, 8, 9, 10, 17, 20} {
		can := min(n, 8)
		for blocks := -2; blocks <= 22; blocks++ {
			b := newBoth(t, usual())
			for i := range n {
				b.ahead(t, blockOf(10+i, send(ann, byte(i))))
			}
			if blocks < 0 || blocks > can {
				b.cut(t, "not so many", blocks, 192)
				b.cut(t, "behind it", can, 0)
				continue
			}
			b.cut(t, "so many", blocks, 0)
			b.cut(t, "one more than is left", can-blocks+1, 192)
			b.cut(t, "what is left", can-blocks, 0)
			b.cut(t, "none", 0, 0).cut(t, "one", 1, 192)
			if got := b.chain.Contract().Inbox().Len(); got != n-can {
				t.Errorf("%d blocks, Cut(%d): %d entries", n, blocks, got)
			}
		}
		b := newBoth(t, usual()).empty(t, 1, n)
		for _, blocks := range []int{math.MinInt, -1 << 32, -9, -8, 9, 1 << 32, 1<<32 + 1, full, math.MaxInt} {
			b.cut(t, "no number", blocks, 192)
		}
	}
}

// Extends and Cuts in turns, of each number that there is: how many can be lost is the chapter's sum.
func TestP19_3_HowManyCanBeLost(t *testing.T) {
	moves := []int{1, 2, 5, 9, -1, -2, -5, -8} // blocks that are added, and cut
	for code := range 8 * 8 * 8 * 8 {
		c, _ := New(usual())
		height, can := 0, 0
		for rest := code; rest > 0; rest /= 8 {
			n := moves[rest%8]
			for range n {
				c.Extend(blockOf(3))
				height, can = height+1, min(can+1, 8)
			}
			if n < 0 && -n > can {
				if e := c.Cut(-n); e != 192 {
					t.Fatalf("script %o: Cut(%d) while %d can be lost: %d", code, -n, can, int(e))
				}
			} else if n < 0 {
				if e := c.Cut(-n); e != 0 {
					t.Fatalf("script %o: Cut(%d) while %d can be lost: %d", code, -n, can, int(e))
				}
				height, can = height+n, can+n
			}
			if c.Height() != height {
				t.Fatalf("script %o: Height is %d, not %d", code, c.Height(), height)
			}
		}
		if e, f := c.Cut(can+1), c.Cut(can); e != 192 || f != 0 || c.Height() != height-can {
			t.Fatalf("script %o: %d can be lost: %d, %d", code, can, int(e), int(f))
		}
	}
}

// Behind a Cut all is as it was ahead of the blocks that were lost; and the same blocks, or others, may follow.
func TestP19_3_AllAsItWas(t *testing.T) {
	s := theStory()
	var was []told
	for height := range len(s.blocks) + 1 {
		was = append(was, tell(newBoth(t, usual()).ahead(t, s.blocks[:height]...).chain.Contract()))
	}
	for height := range len(s.blocks) + 1 {
		for n := range min(height, 8) + 1 {
			what := fmt.Sprint("Cut(", n, ") behind ", height)
			b := newBoth(t, usual()).ahead(t, s.blocks[:height]...).cut(t, what, n, 0)
			left := height - n
			if now := tell(b.chain.Contract()); !reflect.DeepEqual(now, was[left]) {
				t.Fatalf("%s: the contract tells %+v, and told %+v", what, now, was[left])
			}
			other := newBoth(t, usual()).ahead(t, s.blocks[:height]...).cut(t, what, n, 0)
			for i := left; i < len(s.blocks); i++ { // P19.7
				if got, e := b.chain.Extend(s.blocks[i]); e != 0 || !sameResults(got, s.results[i]) {
					t.Fatalf("%s, block %d again: %+v, %d, not %+v", what, i+1, got, int(e), s.results[i])
				}
			}
			if now := tell(b.chain.Contract()); !reflect.DeepEqual(now, was[len(s.blocks)]) {
				t.Fatalf("%s, and all again: the contract tells %+v, and told %+v", what, now, was[len(s.blocks)])
			}
			for i := left + 1; i < len(s.blocks); i += 2 {
				other.extend(t, what+", and others", s.blocks[i])
			}
			other.wantTold(t, what+", and others")
		}
	}
}

// What was lost and comes back at once, eight blocks or fewer, time and again.
func TestP19_7_PutBack(t *testing.T) {
	s := theStory()
	b := toldAll(t)
	was := tell(b.chain.Contract())
	for n := range 9 {
		from := len(s.blocks) - n
		b.cut(t, "lost", n, 0)
		for i := from; i < len(s.blocks); i++ {
			lost := s.blocks[i]
			if got, e := b.extend(t, "put back", lost); e != 0 || !sameResults(got, s.results[i]) {
				t.Errorf("block %d put back: %+v, %d, not %+v", i+1, got, int(e), s.results[i])
			}
		}
		if now := tell(b.chain.Contract()); !reflect.DeepEqual(now, was) {
			t.Errorf("behind %d that were put back the contract tells %+v, and told %+v", n, now, was)
		}
		b.wantTold(t, "put back")
	}
}

// Numbers that were given in lost blocks are given again, and a time below that of a lost head may follow.
func TestP19_3_NumbersAndTimesComeAgain(t *testing.T) {
	b := newBoth(t, usual()).ahead(t, blockOf(5, list(oda, 0), send(ann, 1), send(ann, 2)))
	first := blockOf(90, deposit(ann, 0, bob, of(3), 100), post(ann, api.Commit{Count: 3}), fight(bob, 1))
	got, _ := b.extend(t, "first", first)
	if got[0].Number != 2 || got[1].Number != 1 || got[2].Number != 1 {
		t.Errorf("first: %+v", got)
	}
	b.ahead(t, blockOf(late))
	b.refuse(t, "below the head", blockOf(90), 191)
	b.cut(t, "two", 2, 0).wantHeight(t, 1, 5)
	b.refuse(t, "below the head that is left", blockOf(4), 191)
	got, e := b.extend(t, "second", blockOf(6, send(dan, 9), send(dan, 8), post(cyd, api.Commit{Count: 4}), fight(dan, 1)))
	if e != 0 || got[0].Number != 2 || got[1].Number != 3 || got[2].Number != 1 || got[3].Number != 1 {
		t.Errorf("second: %+v, %d", got, int(e))
	}
	b.wantTold(t, "second")
	b.want(t, "the turn is over", blockOf(17, expire(ann, 1, dan)), 0)
	b.cut(t, "one", 1, 0).want(t, "it is not", blockOf(16, expire(ann, 1, dan)), 174)
	b.cut(t, "all", 3, 0).wantHeight(t, 0, 0)
	b.want(t, "from the beginning", blockOf(0, send(ann, 1)), 0).wantHeight(t, 1, 0)
}

// A leaf that was paid in a lost block can be paid again; held and locked go back.
func TestP19_3_PaidInALostBlock(t *testing.T) {
	s := theStory()
	b := newBoth(t, usual()).ahead(t, s.blocks[:13]...)
	if c := b.chain.Contract(); !c.Paid(0) || !c.Paid(1) || c.Paid(2) {
		t.Fatal("not paid")
	}
	again := s.side.claiming(oda, 0, s.side.commits[8].Leaves)
	b.want(t, "paid", blockOf(107, again), 147)
	b.cut(t, "two", 2, 0)
	if c := b.chain.Contract(); c.Paid(0) || c.Paid(1) {
		t.Error("paid still")
	}
	b.want(t, "not confirmed", blockOf(107, again), 187)
	b.want(t, "confirmed", blockOf(107, confirm(ann), again, again), 0, 0, 147)
}

func TestP19_4_Heights(t *testing.T) {
	s := theStory()
	b := newBoth(t, usual())
	for i := range len(s.blocks) + 1 {
		for _, height := range []int{math.MinInt, -1, 0, i + 1, i + 2, 1 << 32, math.MaxInt} {
			block, e := b.chain.Block(height)
			results, f := b.chain.Results(height)
			if e != 194 || f != 194 || block.Time != 0 || len(block.Ops) != 0 || len(results) != 0 {
				t.Errorf("of %d: Block(%d): %s, %d; Results: %+v, %d", i, height, textOf(block), int(e), results, int(f))
			}
		}
		for height := 1; height <= i; height++ {
			block, e := b.chain.Block(height)
			results, f := b.chain.Results(height)
			if e != 0 || f != 0 || !sameBlock(block, s.blocks[height-1]) || !sameResults(results, s.results[height-1]) {
				t.Errorf("of %d: Block(%d): %s, %d; Results: %+v, %d", i, height, textOf(block), int(e), results, int(f))
			}
		}
		if i < len(s.blocks) {
			b.ahead(t, s.blocks[i])
			b.wantHeight(t, i+1, s.blocks[i].Time)
		}
	}
}

// A block that was lost is told no more, and one that follows is told in its place.
func TestP19_4_BehindCuts(t *testing.T) {
	b := toldAll(t)
	n := b.chain.Height()
	b.cut(t, "three", 3, 0)
	for height := n - 2; height <= n+1; height++ {
		if block, e := b.chain.Block(height); e != 194 || len(block.Ops) != 0 {
			t.Errorf("Block(%d): %s, %d", height, textOf(block), int(e))
		}
		if results, e := b.chain.Results(height); e != 194 || len(results) != 0 {
			t.Errorf("Results(%d): %+v, %d", height, results, int(e))
		}
	}
	other := blockOf(300, send(ann, 5), list(oda, 0))
	b.want(t, "another one", other, 0, 142)
	if block, e := b.chain.Block(n - 2); e != 0 || !sameBlock(block, other) {
		t.Errorf("Block(%d): %s, %d", n-2, textOf(block), int(e))
	}
	if results, e := b.chain.Results(n - 2); e != 0 || len(results) != 2 || results[0].Number != 42 || results[1].Code != 142 {
		t.Errorf("Results(%d): %+v, %d", n-2, results, int(e))
	}
	if _, e := b.chain.Block(n - 1); e != 194 {
		t.Errorf("Block(%d): %d", n-1, int(e))
	}
}

// A chain of many blocks tells all of them.
func TestP19_4_ManyBlocks(t *testing.T) {
	c, _ := New(usual())
	const most = 20000
	for i := range most {
		if l, e := c.Extend(blockOf(i/3, send(ann, byte(i), byte(i>>8)))); e != 0 || len(l) != 1 || l[0].Number != i {
			t.Fatalf("block %d: %+v, %d", i+1, l, int(e))
		}
	}
	if e := c.Cut(8); e != 0 || c.Height() != most-8 || c.Time() != (most-9)/3 || c.Contract().Inbox().Len() != most-8 || c.Cut(1) != 192 {
		t.Errorf("Cut(8): %d, Height %d", int(e), c.Height())
	}
	for i := range most - 8 {
		b, e := c.Block(i + 1)
		l, f := c.Results(i + 1)
		if e != 0 || f != 0 || b.Time != i/3 || len(b.Ops) != 1 || b.Ops[0].Body[0] != byte(i) || b.Ops[0].Body[1] != byte(i>>8) || len(l) != 1 || l[0].Number != i {
			t.Fatalf("Block(%d): %s, %d, %+v, %d", i+1, textOf(b), int(e), l, int(f))
		}
	}
}
