package chain

import (
	"bytes"
	"fmt"
	"reflect"
	"slices"
	"sync"
	"testing"

	"causeway/api"
	"causeway/contract"
)

// roomy is the same list with something behind its end.
func roomy[T any](l []T, spare ...T) []T {
	return append(append(make([]T, 0, len(l)+len(spare)), l...), spare...)[:len(l)]
}

// roomyBlock is the same block, each list of which has something behind its end.
func roomyBlock(b api.Block) api.Block {
	b = keptBlock(b)
	for i, o := range b.Ops {
		b.Ops[i].Body, b.Ops[i].Path = roomy(o.Body, []byte("spare room")...), roomy(o.Path, api.Digest{7}, api.Digest{8})
	}
	b.Ops = roomy(b.Ops, list(oda, 40), send(ann, 1, 2, 3))
	return b
}

// whole is all of a list, its spare room too.
func whole[T any](l []T) []T { return l[:cap(l)] }

// allOf is a copy of all that a block has, the spare room of its lists too.
func allOf(b api.Block) api.Block {
	b.Ops = slices.Clone(whole(b.Ops))
	for i, o := range b.Ops {
		b.Ops[i].Body, b.Ops[i].Path = bytes.Clone(whole(o.Body)), slices.Clone(whole(o.Path))
	}
	return b
}

// spoilBlock writes over all that a block has.
func spoilBlock(b api.Block) {
	for i, o := range whole(b.Ops) {
		for j := range whole(o.Body) {
			whole(o.Body)[j] ^= 255
		}
		for j := range whole(o.Path) {
			whole(o.Path)[j][5] ^= 255
		}
		whole(b.Ops)[i] = api.Op{Kind: 99, By: dan, Body: []byte{9}, Path: []api.Digest{{9}}}
	}
}

// spoilResults writes over all that results have.
func spoilResults(l []api.Result) {
	for i, r := range whole(l) {
		for j := range whole(r.Pays) {
			whole(r.Pays)[j] = api.Pay{Why: 99, To: dan}
		}
		whole(l)[i] = api.Result{Code: 99, Number: 99, Pays: []api.Pay{{Why: 98}}}
	}
}

// Nothing that is handed in is changed, its spare room neither; nor is it kept: what is written there later is not seen.
func TestP19_8_HandedIn(t *testing.T) {
	b := newBoth(t, usual())
	for i, block := range theStory().blocks {
		handed := roomyBlock(block)
		was := allOf(handed)
		got, e := b.chain.Extend(handed)
		if wanted, f := b.said.extend(block); e != f || !sameResults(got, wanted) {
			t.Errorf("block %d: %+v, %d, not %+v, %d", i+1, got, int(e), wanted, int(f))
		}
		if !reflect.DeepEqual(allOf(handed), was) {
			t.Errorf("block %d: what was handed in is written into", i+1)
		}
		b.chain.Block(i + 1)
		b.chain.Results(i + 1)
		if !reflect.DeepEqual(allOf(handed), was) {
			t.Errorf("block %d: what was handed in is written into by a question", i+1)
		}
		spoilBlock(handed)
		b.wantTold(t, fmt.Sprint("behind block ", i+1, ", which was written over"))
	}
	for _, handed := range []api.Block{roomyBlock(blockOf(5, send(ann, 1))), roomyBlock(blockOf(late+1, send(ann, 1))), roomyBlock(blockOf(300, lists(257)...))} {
		was := allOf(handed)
		if _, e := b.chain.Extend(handed); e == 0 || !reflect.DeepEqual(allOf(handed), was) {
			t.Errorf("a refused block: %d, or it is written into", int(e))
		}
	}
}

// One list that stands in several operations, and a block that is handed in twice, are copied as often.
func TestP19_8_HandedInTwice(t *testing.T) {
	body, path := []byte{1, 2, 3}, []api.Digest{{1}, {2}}
	block := blockOf(5, send(ann, body...), api.Op{Kind: 4, Body: body}, api.Op{Kind: 4, Body: body[:2]}, api.Op{Kind: 13, Body: body, Path: path}, api.Op{Kind: 13, Path: path[:1]})
	block.Ops[0].Body = body
	b := newBoth(t, usual()).ahead(t, block, block)
	spoilBlock(block)
	b.wantTold(t, "behind what was written over")
	for height := 1; height <= 2; height++ {
		got, _ := b.chain.Block(height)
		for i := range got.Ops {
			was := keptBlock(got)
			for j := range whole(got.Ops[i].Body) {
				whole(got.Ops[i].Body)[j] = 77
			}
			clear(whole(got.Ops[i].Path))
			for k := range got.Ops {
				if k != i && !sameOp(got.Ops[k], was.Ops[k]) {
					t.Errorf("Block(%d): operations %d and %d share something", height, i, k)
				}
			}
		}
	}
}

// What is answered may be written over, its spare room too: that is not seen in the chain, nor in a second answer.
func TestP19_8_Answered(t *testing.T) {
	s := theStory()
	b := newBoth(t, usual())
	for i, block := range s.blocks {
		got, _ := b.extend(t, "extend", block)
		kept, _ := b.chain.Results(i + 1)
		spoilResults(got)
		if !sameResults(kept, s.results[i]) {
			t.Errorf("block %d: what Results told is written over with what Extend answered", i+1)
		}
		b.wantTold(t, fmt.Sprint("behind the answer to block ", i+1))
		for height := 1; height <= i+1; height++ {
			one, _ := b.chain.Block(height)
			two, _ := b.chain.Block(height)
			spoilBlock(one)
			if !sameBlock(two, s.blocks[height-1]) {
				t.Errorf("two answers of Block(%d) share something", height)
			}
			first, _ := b.chain.Results(height)
			second, _ := b.chain.Results(height)
			spoilResults(first)
			if !sameResults(second, s.results[height-1]) {
				t.Errorf("two answers of Results(%d) share something", height)
			}
		}
		b.wantTold(t, fmt.Sprint("behind the questions behind block ", i+1))
		if t.Failed() {
			return
		}
	}
}

// No two lists of one answer share anything, their spare room neither.
func TestP19_8_ListsOfOneAnswer(t *testing.T) {
	s := theStory()
	b := toldAll(t)
	for i := range s.blocks {
		answers := map[string]func() []api.Result{
			"Results": func() []api.Result { l, _ := b.chain.Results(i + 1); return l },
			"Extend": func() []api.Result {
				l, _ := newBoth(t, usual()).ahead(t, s.blocks[:i]...).chain.Extend(s.blocks[i])
				return l
			},
		}
		for name, answer := range answers {
			l := answer()
			for j := range l {
				for k := range whole(l[j].Pays) {
					whole(l[j].Pays)[k] = api.Pay{Why: 99}
				}
				for k := range l {
					if k > j && !slices.Equal(l[k].Pays, s.results[i][k].Pays) {
						t.Errorf("%s of block %d: the Pays %d and %d share something", name, i+1, j, k)
					}
				}
			}
		}
		block, _ := b.chain.Block(i + 1)
		for j, o := range block.Ops {
			for k := range whole(o.Body) {
				whole(o.Body)[k] ^= 255
			}
			for k := range whole(o.Path) {
				whole(o.Path)[k][0] ^= 255
			}
			for k := j + 1; k < len(block.Ops); k++ {
				if !sameOp(block.Ops[k], s.blocks[i].Ops[k]) {
					t.Errorf("Block(%d): operations %d and %d share something", i+1, j, k)
				}
			}
		}
	}
}

// The contract is just as the chain's, and its own: whatever is done with it is not seen in the chain, nor in another one that was asked for; and what is done with the chain is not seen there.
func TestP19_5_Contract(t *testing.T) {
	s := theStory()
	b := newBoth(t, usual())
	var given []*contract.Contract
	var was []told
	for i, block := range s.blocks {
		given, was = append(given, b.chain.Contract()), append(was, tell(b.chain.Contract()))
		fresh, _ := b.said.again(i)
		if !reflect.DeepEqual(was[i], tell(fresh)) {
			t.Errorf("behind %d blocks: it tells %+v, not %+v", i, was[i], tell(fresh))
		}
		turned, other := b.chain.Contract(), b.chain.Contract()
		if turned == other {
			t.Error("twice the same one")
		}
		for j := range block.Ops { // what is to be done next, and more
			turned.Do(block.Time, block.Ops[j])
		}
		turned.Do(block.Time+1, send(ann, 1))
		turned.Do(late, list(oda, 50))
		if !reflect.DeepEqual(tell(other), was[i]) {
			t.Errorf("behind %d blocks: what is done with one is seen in another one", i)
		}
		b.wantTold(t, fmt.Sprint("behind what was done with the contract of ", i, " blocks"))
		if got, e := b.extend(t, "and on", block); e != 0 || !sameResults(got, s.results[i]) {
			t.Errorf("block %d: %+v, %d, not %+v", i+1, got, int(e), s.results[i])
		}
	}
	b.cut(t, "back", 8, 0).ahead(t, blockOf(300, send(dan, 5), list(oda, 60), post(ann, api.Commit{Count: 43, Leaves: 99})))
	for i, c := range given {
		if !reflect.DeepEqual(tell(c), was[i]) {
			t.Errorf("what the chain does is seen in the contract of %d blocks", i)
		}
		for j, o := range s.blocks[i].Ops { // it goes on as the chain did
			if got := c.Do(s.blocks[i].Time, o); !sameResults([]api.Result{got}, s.results[i][j:j+1]) {
				t.Errorf("the contract of %d blocks, operation %d: %+v, not %+v", i, j, got, s.results[i][j])
			}
		}
	}
	b.wantTold(t, "at last")
}

// A head that is come back to is not turned by what was done with contracts that were asked for ahead of the Cut.
func TestP19_5_ContractAndCuts(t *testing.T) {
	s := theStory()
	for n := 1; n <= 8; n++ {
		b := newBoth(t, usual())
		for i, block := range s.blocks {
			c := b.chain.Contract()
			for range 3 {
				c.Do(block.Time, send(ann, byte(i)))
				c.Do(block.Time, list(oda, i))
			}
			b.ahead(t, block)
		}
		b.cut(t, fmt.Sprint("Cut(", n, ")"), n, 0)
		c := b.chain.Contract()
		c.Do(late, send(ann, 1))
		c.Do(late, post(ann, api.Commit{Count: 40, Leaves: 99}))
		b.wantTold(t, fmt.Sprint("behind Cut(", n, ")"))
	}
}

// Two chains in turns have nothing in common, and neither do two of one config that are told the same.
func TestP19_8_TwoChains(t *testing.T) {
	s := theStory()
	other := usual()
	other.Bond = of(9)
	one, two, three := newBoth(t, usual()), newBoth(t, usual()), newBoth(t, other)
	for i, block := range s.blocks {
		one.ahead(t, block)
		two.wantTold(t, "the second one")
		if i%3 == 2 {
			one.cut(t, "the first one", 2, 0)
			two.wantTold(t, "the second one")
			one.ahead(t, s.blocks[i-1], block)
		}
		two.ahead(t, block)
		three.ahead(t, block)
		one.wantTold(t, "the first one")
		three.wantTold(t, "the third one")
		if i%4 == 3 {
			two.cut(t, "the second one", 1, 0)
			three.cut(t, "the third one", 3, 0)
			one.wantTold(t, "the first one")
			two.ahead(t, block)
		}
	}
	if !reflect.DeepEqual(tell(one.chain.Contract()), tell(two.chain.Contract())) {
		t.Error("the same blocks do not make the same contract")
	}
}

// Contracts of one chain may be used by several at the same time, while the chain goes on.
func TestR5_SideBySide(t *testing.T) {
	s := theStory()
	b := newBoth(t, usual()).ahead(t, s.blocks[:9]...)
	var all []*contract.Contract
	for range 6 {
		all = append(all, b.chain.Contract())
	}
	var group sync.WaitGroup
	for i, c := range all {
		group.Go(func() {
			for j, block := range s.blocks[9:] {
				for _, o := range block.Ops {
					c.Do(block.Time, o)
				}
				c.Do(block.Time, send(someone(byte(i)), byte(j)))
				tell(c)
			}
		})
	}
	group.Go(func() {
		for _, block := range s.blocks[9:] {
			b.chain.Extend(block)
			b.chain.Cut(1)
			b.chain.Extend(block)
			b.chain.Contract()
		}
	})
	group.Wait()
	for _, block := range s.blocks[9:] {
		b.said.extend(block)
	}
	b.wantTold(t, "the chain")
	alone, _ := b.said.again(9)
	for j, block := range s.blocks[9:] {
		for _, o := range block.Ops {
			alone.Do(block.Time, o)
		}
		alone.Do(block.Time, send(someone(4), byte(j)))
	}
	if !reflect.DeepEqual(tell(all[4]), tell(alone)) {
		t.Error("what others did is seen in a contract")
	}
}

// No more is kept than can be asked for: what has fallen off, below or above, is cleared.
func TestHeads_Cleared(t *testing.T) {
	s := theStory()
	b := newBoth(t, usual())
	wantCleared := func(what string) {
		t.Helper()
		c := b.chain
		if len(c.back) != b.said.lose || len(c.records) != len(b.said.blocks) {
			t.Errorf("%s: %d heads and %d records, not %d and %d", what, len(c.back), len(c.records), b.said.lose, len(b.said.blocks))
		}
		for i, h := range whole(c.back)[len(c.back):] {
			if h != (head{}) {
				t.Errorf("%s: behind the heads, place %d: height %d", what, i, h.height)
			}
		}
		for i, r := range whole(c.records)[len(c.records):] {
			if r.block.Ops != nil || r.block.Time != 0 || r.results != nil {
				t.Errorf("%s: behind the records, place %d: %s", what, i, textOf(r.block))
			}
		}
		for i, h := range c.back {
			if h.height != c.head.height-len(c.back)+i || h.Contract == nil || h.Contract == c.head.Contract {
				t.Errorf("%s: head %d has the height %d", what, i, h.height)
			}
		}
	}
	for i, block := range s.blocks {
		b.ahead(t, block)
		wantCleared(fmt.Sprint("behind block ", i+1))
	}
	for n := range 9 {
		b.cut(t, "cut", n, 0)
		wantCleared(fmt.Sprint("behind Cut(", n, ")"))
		b.ahead(t, s.blocks[len(s.blocks)-n:]...)
		wantCleared(fmt.Sprint("behind Cut(", n, ") and as many blocks"))
	}
}

func TestR1_Nil(t *testing.T) {
	var c *Chain
	if l, e := c.Extend(blockOf(-1, lists(257)...)); e != 1 || len(l) != 0 {
		t.Errorf("Extend of a nil chain: %+v, %d", l, int(e))
	}
	if b, e := c.Block(1); e != 1 || !reflect.DeepEqual(b, api.Block{}) {
		t.Errorf("Block of a nil chain: %+v, %d", b, int(e))
	}
	if l, e := c.Results(1); e != 1 || len(l) != 0 {
		t.Errorf("Results of a nil chain: %+v, %d", l, int(e))
	}
	if c.Cut(0) != 1 || c.Cut(-1) != 1 || c.Height() != 0 || c.Time() != 0 || c.Contract() != nil {
		t.Error("a nil chain tells something")
	}
	zero := &Chain{}
	for i, block := range theStory().blocks {
		if l, e := zero.Extend(block); e != 0 || len(l) != len(block.Ops) || zero.Height() != i+1 {
			t.Errorf("Extend of a chain that New did not give: %+v, %d", l, int(e))
		}
	}
	if zero.Cut(8) != 0 || zero.Contract() != nil {
		t.Error("a chain that New did not give tells something")
	}
}
