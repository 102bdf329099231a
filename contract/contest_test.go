package contract

import (
	"fmt"
	"slices"
	"testing"

	"causeway/api"
	"causeway/witness"
)

func TestOpChallenge(t *testing.T) {
	w := begun(t)
	s := w.side
	w.posted(t, 60, ann, s.commits[10]).posted(t, 61, bob, s.lies(20)[0]).posted(t, 62, ann, s.commits[25])
	for _, number := range []int{4, 5, full} {
		w.refuse(t, "no such assertion", 70, challenge(cyd, number, s.shown(10, 20)), 164)
	}
	w.refuse(t, "no witness", 70, challenge(cyd, 2, nil), 131)
	w.refuse(t, "no witness", 70, challenge(cyd, 2, []byte{87, 0, 0}), 131)
	w.refuse(t, "it shows what was asserted", 70, challenge(cyd, 1, s.shown(0, 10)), 185)
	w.refuse(t, "of other entries", 70, challenge(cyd, 2, s.shown(0, 10)), 132)
	w.refuse(t, "it goes on from a lie", 70, challenge(cyd, 3, s.shown(20, 25)), 132)
	w.refuse(t, "of fewer entries", 70, challenge(cyd, 2, s.shown(10, 12)), 133)
	w.twin().want(t, "it is wrong", 70, challenge(cyd, 2, s.shown(10, 20)), 0, 2, rewardTo(cyd, 2), bondTo(ann, 3))
	w.twin().want(t, "by its poster", 70, challenge(bob, 2, s.shown(10, 20)), 0, 2, rewardTo(bob, 2), bondTo(ann, 3))
	w.twin().want(t, "one moment ahead of its deadline", 160, challenge(cyd, 2, s.shown(10, 20)), 0, 2, rewardTo(cyd, 2), bondTo(ann, 3))
	w.refuse(t, "at its deadline", 161, challenge(cyd, 2, s.shown(10, 20)), 167)
	w.refuse(t, "far behind it", late, challenge(cyd, 2, s.shown(10, 20)), 167)
	w.want(t, "it falls", 70, challenge(cyd, 2, s.shown(10, 20)), 0, 2, rewardTo(cyd, 2), bondTo(ann, 3))
	wantLocked(t, w.both, 7)
	w.refuse(t, "it is not there any more", 70, challenge(cyd, 2, s.shown(10, 20)), 164)
	w.want(t, "the next number", 70, post(bob, s.lies(20)[1]), 0, 4)
	w.want(t, "it goes on from the first one", 70, challenge(cyd, 4, s.shown(10, 20)), 0, 4, rewardTo(cyd, 4))
}

// Several faults at once: the first one of the row tells.
func TestOpChallenge_Order(t *testing.T) {
	w := begun(t)
	s := w.side
	w.posted(t, 60, ann, s.lies(33)[0]).posted(t, 61, bob, api.Commit{Count: 40, Leaves: 9})
	w.refuse(t, "none, late, no witness", 300, challenge(cyd, 3, nil), 164)
	w.refuse(t, "span, late, no witness", 300, challenge(cyd, 1, nil), 184)
	w.refuse(t, "span, no witness", 70, challenge(cyd, 1, nil), 184)
	w.refuse(t, "span, late", 300, challenge(cyd, 1, s.shown(0, 32)), 184)
	w.refuse(t, "late, no witness", 161, challenge(cyd, 2, nil), 167)
	w.refuse(t, "late, a wrong one", 161, challenge(cyd, 2, s.shown(0, 3)), 167)
	w.refuse(t, "no witness", 160, challenge(cyd, 2, nil), 131)
	w.refuse(t, "a wrong one", 160, challenge(cyd, 2, s.shown(0, 3)), 132)
}

// Over how many entries: each number up to 32, and 33 and more.
func TestOpChallenge_Spans(t *testing.T) {
	for _, from := range []int{0, 1, 40} {
		for span := 1; span <= 36; span++ {
			w := begun(t)
			s := w.side
			if from > 0 {
				w.posted(t, 60, ann, s.commits[from])
			}
			number := len(w.contract.Pending()) + 1
			right, wrong := w.twin().posted(t, 60, bob, s.commits[from+span]), w.posted(t, 60, bob, s.lies(from + span)[2])
			if span > 32 {
				right.refuse(t, "too many", 70, challenge(cyd, number, s.shown(from, from+32)), 184)
				wrong.refuse(t, "too many", 70, challenge(cyd, number, s.shown(from, from+32)), 184)
				continue
			}
			right.refuse(t, "right", 70, challenge(cyd, number, s.shown(from, from+span)), 185)
			wrong.want(t, "wrong", 70, challenge(cyd, number, s.shown(from, from+span)), 0, number, rewardTo(cyd, number))
		}
	}
}

func TestOpDuel(t *testing.T) {
	w := begun(t)
	s := w.side
	w.posted(t, 60, ann, s.commits[1], s.commits[3]).posted(t, 61, bob, s.lies(40)[0])
	w.refuse(t, "no such one", 70, fight(cyd, 4), 164)
	w.refuse(t, "over one entry", 70, fight(cyd, 1), 170)
	w.refuse(t, "over one entry, by its poster, late", 300, fight(ann, 1), 170)
	w.refuse(t, "by its poster", 70, fight(ann, 2), 172)
	w.refuse(t, "by its poster", 70, fight(bob, 3), 172)
	w.refuse(t, "late", 160, fight(cyd, 2), 167)
	w.refuse(t, "late, by its poster", 160, fight(ann, 2), 167)
	w.twin().want(t, "one moment ahead of its deadline", 159, fight(cyd, 2), 0, 2)
	w.want(t, "over two entries", 70, fight(cyd, 2), 0, 2)
	wantLocked(t, w.both, 28)
	w.refuse(t, "again", 71, fight(cyd, 2), 186)
	w.refuse(t, "again, late", 160, fight(cyd, 2), 167)
	w.want(t, "by another one", 72, fight(bob, 2), 0, 2)
	w.want(t, "over another one", 73, fight(cyd, 3), 0, 3)
	w.want(t, "by noughts", 73, fight(api.Address{}, 3), 0, 3)
	wantLocked(t, w.both, 49)
	wanted := []api.Duel{
		{Number: 2, Challenger: bob, Defender: ann, State: 1, Low: s.commits[1], High: s.commits[3], Until: 82},
		{Number: 2, Challenger: cyd, Defender: ann, State: 1, Low: s.commits[1], High: s.commits[3], Until: 80},
		{Number: 3, Defender: bob, State: 1, Low: s.commits[3], High: s.lies(40)[0], Until: 83},
		{Number: 3, Challenger: cyd, Defender: bob, State: 1, Low: s.commits[3], High: s.lies(40)[0], Until: 83},
	}
	if got := w.contract.Duels(); !slices.Equal(got, wanted) {
		t.Errorf("Duels is %+v, not %+v", got, wanted)
	}
	for i, n := range []int{0, 2, 2} {
		if got := w.contract.Pending()[i].Duels; got != n {
			t.Errorf("over assertion %d %d duels are open, not %d", i+1, got, n)
		}
	}
}

// The greatest span there is, and a turn that ends with time itself.
func TestOpDuel_Edges(t *testing.T) {
	many := greatest()
	b := many.copied().ahead(t, 60, post(ann, many.side.lies(1024)[0]))
	b.want(t, "1024 entries", 60, fight(bob, 1), 0, 1)
	b.refuse(t, "no challenge of so many", 60, challenge(bob, 1, many.side.shown(0, 32)), 184)
	w := begun(t)
	w.posted(t, late-100, ann, w.side.commits[40])
	w.want(t, "late", late-5, fight(bob, 1), 0, 1)
	if got := w.contract.Duels()[0].Until; got != late {
		t.Errorf("Until is %d", got)
	}
	w.refuse(t, "never over", late, expire(bob, 1, bob), 174)
	w.refuse(t, "no such time", late+1, expire(bob, 1, bob), 182)
	w.refuse(t, "held", late, confirm(bob), 166)
}

// The duel of bob over ann's lie about five entries, in all states that come; beside it cyd has one, too.
func inSplit(t testing.TB) world {
	w := begun(t)
	w.posted(t, 60, ann, w.side.lies(5)[0])
	w.ahead(t, 60, fight(bob, 1), fight(cyd, 1))
	return w
}

func inPick(t testing.TB) world {
	w := inSplit(t)
	w.ahead(t, 61, split(ann, 1, bob, w.side.commits[2]))
	return w
}

func inSplitAgain(t testing.TB) world {
	w := inPick(t)
	w.ahead(t, 62, pick(bob, 1, 1))
	return w
}

func inPickAgain(t testing.TB) world {
	w := inSplitAgain(t)
	w.ahead(t, 63, split(ann, 1, bob, w.side.lies(3)[1]))
	return w
}

func inProve(t testing.TB) world {
	w := inPickAgain(t)
	w.ahead(t, 64, pick(bob, 1, 0))
	return w
}

// everyMove is each move in a duel, by everybody and against everybody, some with what is its own fault.
func (w world) everyMove(number int) []api.Op {
	var l []api.Op
	people := []api.Address{ann, bob, cyd, dan, oda, {}}
	s := w.side
	for _, by := range people {
		for _, to := range people {
			l = append(l, expire(by, number, to))
			for _, c := range []api.Commit{s.commits[2], s.commits[3], s.lies(2)[0]} {
				l = append(l, split(by, number, to, c))
			}
			l = append(l, api.Op{Kind: 9, By: by, Number: number, To: to, Body: []byte{1}})
		}
		l = append(l, pick(by, number, 0), pick(by, number, 1), prove(by, number, nil), prove(by, number, []byte{87, 0, 0, 0}))
		for i := range 4 {
			l = append(l, prove(by, number, s.shown(i, i+1)))
		}
	}
	return l
}

func TestMoves_EveryState(t *testing.T) {
	seen := map[string]int{}
	for _, make := range []func(testing.TB) world{inSplit, inPick, inSplitAgain, inPickAgain, inProve} {
		w := make(t)
		d, _ := w.said.duel(1, bob)
		for _, now := range []int{w.contract.Now() - 1, w.contract.Now(), d.Until, d.Until + 1} {
			for _, o := range w.everyMove(1) {
				got := w.twin().do(t, fmt.Sprint("in state ", d.State), now, o)
				if whose(o) == bob {
					seen[fmt.Sprint(d.State, " ", o.Kind, " ", int(got.Code))]++
				}
			}
			for _, o := range w.everyMove(2) {
				if code := w.do(t, "of no assertion", now, o).Code; code != api.ErrContractDuel && code != api.ErrContractTime {
					t.Errorf("%s: %d", textOf(now, o), int(code))
				}
			}
		}
	}
	for _, wanted := range []string{
		"1 9 0", "1 9 160", "1 9 172", "1 9 173", "1 9 175", "1 9 182", "1 10 171", "1 10 182", "1 11 131", "1 11 171", "1 11 182", "1 12 0", "1 12 174", "1 12 182",
		"2 9 160", "2 9 171", "2 9 182", "2 10 0", "2 10 173", "2 10 182", "2 11 131", "2 11 171", "2 11 182", "2 12 0", "2 12 174", "2 12 182",
		"3 9 160", "3 9 171", "3 9 182", "3 10 171", "3 10 182", "3 11 0", "3 11 131", "3 11 132", "3 11 173", "3 11 182", "3 12 0", "3 12 174", "3 12 182",
	} {
		if seen[wanted] == 0 {
			t.Errorf("%s did not come", wanted)
		}
		delete(seen, wanted)
	}
	for other, n := range seen {
		t.Errorf("%s came %d times", other, n)
	}
}

// Each move's steps, alone and several at once.
func TestMoves_Order(t *testing.T) {
	first, second, last := inSplit(t), inPick(t), inProve(t)
	s := first.side
	noCommit := func(by api.Address, number int, to api.Address) api.Op {
		return api.Op{Kind: 9, By: by, Number: number, To: to, Body: []byte{1}}
	}
	for _, x := range []struct {
		name   string
		w      world
		now    int
		o      api.Op
		wanted int
	}{
		{"split: no duel, no commit, late", first, 71, noCommit(ann, 1, dan), 186},
		{"split: no duel of that number", first, 60, noCommit(ann, 2, bob), 186},
		{"split: no commit, not the turn", second, 61, noCommit(ann, 1, bob), 160},
		{"split: no commit, not whose, late", first, 71, noCommit(dan, 1, bob), 160},
		{"split: not the turn, not whose", second, 61, split(dan, 1, bob, s.commits[2]), 171},
		{"split: not whose, late, not in the middle", first, 71, split(dan, 1, bob, s.commits[3]), 172},
		{"split: by the challenger", first, 60, split(bob, 1, bob, s.commits[2]), 172},
		{"split: late, not in the middle", first, 71, split(ann, 1, bob, s.commits[3]), 173},
		{"split: not in the middle", first, 70, split(ann, 1, bob, s.commits[3]), 175},
		{"split: the last moment", first, 70, split(ann, 1, bob, s.commits[2]), 0},
		{"pick: no duel", second, 61, pick(ann, 1, 1), 186},
		{"pick: by another challenger, whose turn it is not", second, 61, pick(cyd, 1, 1), 171},
		{"pick: late", second, 72, pick(bob, 1, 1), 173},
		{"pick: the last moment", second, 71, pick(bob, 1, 1), 0},
		{"prove: no duel, no witness", last, 64, prove(ann, 1, nil), 186},
		{"prove: no witness, not the turn", second, 61, prove(bob, 1, nil), 131},
		{"prove: no witness, late", last, 75, prove(bob, 1, nil), 131},
		{"prove: not the turn", second, 61, prove(bob, 1, s.shown(2, 3)), 171},
		{"prove: late, a wrong one", last, 75, prove(bob, 1, s.shown(1, 2)), 173},
		{"prove: a wrong one", last, 74, prove(bob, 1, s.shown(1, 2)), 132},
		{"prove: the last moment", last, 74, prove(bob, 1, s.shown(2, 3)), 0},
		{"expire: no duel", last, 75, expire(ann, 1, dan), 186},
		{"expire: no duel over that", last, 75, expire(ann, 2, bob), 186},
		{"expire: early", last, 74, expire(ann, 1, bob), 174},
		{"expire: over", last, 75, expire(ann, 1, bob), 0},
	} {
		if got := x.w.twin().do(t, x.name, x.now, x.o); int(got.Code) != x.wanted {
			t.Errorf("%s: %+v, not %d", x.name, got, x.wanted)
		}
	}
}

func TestMoves_WhatTheyTell(t *testing.T) {
	w := inSplit(t)
	s := w.side
	w.want(t, "split", 61, split(ann, 1, bob, s.commits[2]), 0, 1)
	w.want(t, "pick", 62, pick(bob, 1, 1), 0, 1)
	w.want(t, "split", 63, split(ann, 1, bob, s.commits[3]), 0, 1)
	up := w.twin()
	w.want(t, "pick the lower half", 64, pick(bob, 1, 0), 0, 1)
	w.refuse(t, "it holds", 65, prove(bob, 1, s.shown(2, 3)), 176)
	w.refuse(t, "a proof of another entry", 65, prove(bob, 1, s.shown(3, 4)), 132)
	w.want(t, "no proof", 75, expire(cyd, 1, bob), 0, 1, rewardTo(ann, 1))
	w.refuse(t, "there is no duel any more", 75, expire(cyd, 1, bob), 186)
	if got := w.contract.Duels(); len(got) != 1 || got[0].Challenger != cyd || w.contract.Pending()[0].Duels != 1 {
		t.Errorf("Duels is %+v", got)
	}
	wantLocked(t, w.both, 14)
	w.want(t, "bob once more", 75, fight(bob, 1), 0, 1)
	up.want(t, "pick the upper half", 64, pick(bob, 1, 1), 0, 1)
	up.want(t, "split", 64, split(ann, 1, bob, s.commits[4]), 0, 1)
	up.want(t, "pick", 64, pick(bob, 1, 1), 0, 1)
	up.want(t, "prove", 64, prove(bob, 1, s.shown(4, 5)), 0, 1, rewardTo(bob, 1), bondTo(bob, 1), bondTo(cyd, 1))
	wantLocked(t, up.both, 0)
}

// Expire in each state: who was to move has lost.
func TestOpExpire_EachState(t *testing.T) {
	for _, x := range []struct {
		w     world
		until int
		falls bool
	}{
		{inSplit(t), 70, true}, {inPick(t), 71, false}, {inSplitAgain(t), 72, true}, {inPickAgain(t), 73, false}, {inProve(t), 74, false},
	} {
		for _, by := range []api.Address{ann, bob, cyd, dan, {}} {
			w := x.w.twin()
			w.refuse(t, "early", x.until, expire(by, 1, bob), 174)
			if x.falls {
				w.want(t, "no split", x.until+1, expire(by, 1, bob), 0, 1, rewardTo(bob, 1), bondTo(bob, 1), bondTo(cyd, 1))
				wantLocked(t, w.both, 0)
				continue
			}
			w.want(t, "no move", x.until+1, expire(by, 1, bob), 0, 1, rewardTo(ann, 1))
			wantLocked(t, w.both, 14)
			w.want(t, "the other one's", x.until+1, expire(by, 1, cyd), 0, 1, rewardTo(cyd, 1), bondTo(cyd, 1))
			wantLocked(t, w.both, 0)
		}
	}
}

// downTo plays a duel of bob over ann's assertion 1 down to one entry: ann tells what says tells, bob picks what picks tells.
func (w world) downTo(t testing.TB, says func(count int) api.Commit, upper func(middle api.Commit) bool) api.Duel {
	t.Helper()
	now := w.contract.Now()
	for {
		d, there := w.said.duel(1, bob)
		if !there || d.Rounds > 10 {
			t.Fatalf("no end: %+v", d)
		}
		if d.State == 3 {
			return d
		}
		middle := says(half(d))
		index := 0
		if upper(middle) {
			index = 1
		}
		w.want(t, "split", now, split(ann, 1, bob, middle), 0, 1)
		w.want(t, "pick", now, pick(bob, 1, index), 0, 1)
	}
}

// Down to both ends, and to every entry between them: what is lied about there is proven, what is not is not.
func TestMoves_DownToOneEntry(t *testing.T) {
	for _, span := range []int{2, 3, 5, 8, 33, 40} {
		for from := range span {
			w := begun(t)
			s := w.side
			right := w.twin().posted(t, 60, ann, s.commits[span])
			right.ahead(t, 60, fight(bob, 1))
			d := right.downTo(t, func(count int) api.Commit { return s.commits[count] }, func(c api.Commit) bool { return c.Count <= from })
			if d.Low.Count != from {
				t.Fatalf("span %d: down to entry %d, not %d", span, d.Low.Count, from)
			}
			right.refuse(t, "it holds", 60, prove(bob, 1, s.shown(from, from+1)), 176)
			right.want(t, "over", 71, expire(dan, 1, bob), 0, 1, rewardTo(ann, 1))
			says := func(count int) api.Commit {
				if count <= from {
					return s.commits[count]
				}
				return s.lies(count)[count%4]
			}
			w.posted(t, 60, ann, says(span))
			w.ahead(t, 60, fight(bob, 1))
			if d := w.downTo(t, says, func(c api.Commit) bool { return c == s.commits[c.Count] }); d.Low.Count != from {
				t.Fatalf("span %d: down to entry %d, not %d", span, d.Low.Count, from)
			}
			w.want(t, "proven", 60, prove(bob, 1, s.shown(from, from+1)), 0, 1, rewardTo(bob, 1), bondTo(bob, 1))
		}
	}
}

// crowd has five assertions, of which the second one is wrong, and duels over four of them, opened in an order that is not theirs.
func crowd(t testing.TB) world {
	w := begun(t)
	s := w.side
	w.posted(t, 60, ann, s.commits[10]).posted(t, 61, bob, s.lies(20)[0]).posted(t, 62, cyd, s.commits[24]).posted(t, 63, dan, s.commits[25]).posted(t, 64, ann, s.commits[30])
	w.ahead(t, 64, fight(dan, 5), fight(dan, 2), fight(dan, 1), fight(cyd, 2), fight(bob, 5), fight(ann, 3), fight(ann, 2), fight(api.Address{}, 5), fight(someone(255), 2), fight(bob, 3))
	return w
}

// From the second one on, by somebody, in their order: each assertion, and then those who have duels over it.
func crowdPays(to api.Address) []api.Pay {
	return []api.Pay{
		rewardTo(to, 2), bondTo(ann, 2), bondTo(cyd, 2), bondTo(dan, 2), bondTo(someone(255), 2),
		bondTo(cyd, 3), bondTo(ann, 3), bondTo(bob, 3),
		bondTo(dan, 4),
		bondTo(ann, 5), bondTo(api.Address{}, 5), bondTo(bob, 5), bondTo(dan, 5),
	}
}

func TestP18_3_Falls(t *testing.T) {
	w := crowd(t)
	s := w.side
	wantLocked(t, w.both, 105)
	shown := s.shown(10, 20)
	left := func(w world) {
		t.Helper()
		wantLocked(t, w.both, 14)
		if got := w.contract.Duels(); len(got) != 1 || got[0].Number != 1 || got[0].Challenger != dan || len(w.contract.Pending()) != 1 || w.contract.Top() != s.commits[10] {
			t.Errorf("left: %+v, %+v", got, w.contract.Pending())
		}
		for number := 2; number <= 5; number++ {
			w.refuse(t, "no such assertion", 80, fight(dan, number), 164)
			w.refuse(t, "no such duel", 80, expire(dan, number, dan), 186)
			w.refuse(t, "no such duel", 80, expire(dan, number, bob), 186)
		}
		w.want(t, "the next number", 80, post(dan, s.commits[12]), 0, 6)
	}
	byStroke := w.twin()
	byStroke.want(t, "by a stroke", 70, challenge(someone(9), 2, shown), 0, 2, crowdPays(someone(9))...)
	left(byStroke)
	byOwn := w.twin()
	byOwn.want(t, "by its poster", 70, challenge(bob, 2, shown), 0, 2, crowdPays(bob)...)
	left(byOwn)
	bySilence := w.twin()
	bySilence.want(t, "by silence", 75, expire(someone(9), 2, cyd), 0, 2, crowdPays(cyd)...)
	left(bySilence)
	byProof := w.twin()
	byProof.ahead(t, 65, split(bob, 2, dan, s.lies(15)[0]), pick(dan, 2, 0), split(bob, 2, dan, s.lies(12)[0]), pick(dan, 2, 0), split(bob, 2, dan, s.commits[11]), pick(dan, 2, 1))
	byProof.want(t, "by a proof", 70, prove(dan, 2, s.shown(11, 12)), 0, 2, crowdPays(dan)...)
	left(byProof)
}

// The first one falls, and all; the last one falls alone; one with nobody behind it and no duel.
func TestP18_3_AllAndOne(t *testing.T) {
	w := crowd(t)
	all := append([]api.Pay{rewardTo(dan, 1), bondTo(dan, 1), bondTo(bob, 2)}, crowdPays(bob)[1:]...)
	first := w.twin()
	first.want(t, "all", 75, expire(bob, 1, dan), 0, 1, all...)
	wantLocked(t, first.both, 0)
	if len(first.contract.Duels()) != 0 || len(first.contract.Pending()) != 0 || first.contract.Top() != w.side.commits[0] {
		t.Error("something is left")
	}
	last := w.twin()
	last.want(t, "the last one", 75, expire(bob, 5, bob), 0, 5, append([]api.Pay{rewardTo(bob, 5)}, crowdPays(bob)[10:]...)...)
	wantLocked(t, last.both, 77)
	alone := begun(t)
	alone.posted(t, 60, ann, w.side.lies(7)[0])
	alone.want(t, "alone", 60, challenge(cyd, 1, w.side.shown(0, 7)), 0, 1, rewardTo(cyd, 1))
}

// A duel that is lost frees its own bond alone.
func TestP18_3_LostAlone(t *testing.T) {
	w := crowd(t)
	w.ahead(t, 65, split(bob, 2, cyd, w.side.commits[15]))
	w.want(t, "lost", 76, expire(dan, 2, cyd), 0, 2, rewardTo(bob, 2))
	wantLocked(t, w.both, 98)
	if n := len(w.contract.Duels()); n != 9 || w.contract.Pending()[1].Duels != 3 {
		t.Errorf("%d duels are open, %d over the second one", n, w.contract.Pending()[1].Duels)
	}
	pays := slices.Delete(crowdPays(ann), 2, 3)
	w.want(t, "and then it falls", 76, expire(dan, 2, ann), 0, 2, pays...)
}

// Right ones stay: whatever witness is shown, it is refused, and nothing changes.
func TestP18_9_RightOnesStay(t *testing.T) {
	for _, x := range [][2]int{{0, 1}, {0, 5}, {4, 6}, {17, 18}, {24, 25}, {30, 62}, {37, 39}, {60, 75}, {79, 80}} {
		w := begun(t)
		s := w.side
		if x[0] > 0 {
			w.posted(t, 60, ann, s.commits[x[0]])
		}
		w.posted(t, 60, ann, s.commits[x[1]])
		number := len(w.contract.Pending())
		seen := s.recorded(x[0], x[1])
		list := append(forged(seen), seen, widened(s.tables[x[0]], seen), s.recorded(x[0], x[0]+1), s.recorded(max(0, x[0]-1), max(1, x[1]-1)))
		for i, f := range list {
			got := w.contract.Do(70, challenge(bob, number, witnessBytes(f)))
			if got.Code == 0 || got.Number != 0 || len(got.Pays) != 0 {
				t.Fatalf("entries %v, witness %d: %+v", x, i, got)
			}
		}
		body := witnessBytes(seen)
		for i := range min(len(body), 400) {
			other := slices.Clone(body)
			other[i] ^= 1 << (i % 8)
			if got := w.contract.Do(70, challenge(bob, number, other)); got.Code == 0 {
				t.Fatalf("entries %v, byte %d turned: %+v", x, i, got)
			}
		}
		w.wantTold(t, "behind all of them")
		w.refuse(t, "what is recorded", 70, challenge(bob, number, body), 185)
		w.refuse(t, "more than is touched", 70, challenge(bob, number, witnessBytes(widened(s.tables[x[0]], seen))), 185)
	}
}

// Wrong ones go: each sort of lie, by what is recorded.
func TestP18_10_WrongOnesGo(t *testing.T) {
	for from := 0; from < 80; from += 3 {
		for _, span := range []int{1, 2, 7, 32} {
			if from+span > 80 {
				continue
			}
			s := begun(t).side
			for i, lie := range s.lies(from + span) {
				w := begun(t)
				if from > 0 {
					w.posted(t, 60, ann, s.commits[from])
				}
				w.posted(t, 60, ann, lie)
				number := len(w.contract.Pending())
				got := w.contract.Do(159, challenge(bob, number, s.shown(from, from+span)))
				if !sameResult(got, api.Result{Number: number, Pays: []api.Pay{rewardTo(bob, number)}}) || len(w.contract.Pending()) != number-1 {
					t.Fatalf("from %d, span %d, lie %d: %+v", from, span, i, got)
				}
			}
		}
	}
}

// Some entries touch so much that what is recorded of 32 has many bytes; it falls all the same.
func TestP18_10_GreatWitness(t *testing.T) {
	many := greatest()
	s := many.side
	b := many.copied()
	b.ahead(t, 60, post(ann, s.commits[1000]), post(bob, s.lies(1032)[3]))
	shown := s.shown(1000, 1032)
	if len(shown) < 4096 {
		t.Errorf("the witness has %d bytes", len(shown))
	}
	b.refuse(t, "one byte too few", 60, challenge(cyd, 2, shown[:len(shown)-1]), 131)
	b.want(t, "it falls", 60, challenge(cyd, 2, shown), 0, 2, rewardTo(cyd, 2))
}

// A witness that was recorded on another store shows nothing here.
func TestOpChallenge_AnotherStore(t *testing.T) {
	config := usual()
	config.Admin = ann
	other := worldOf(config, 20)
	w := begun(t)
	w.posted(t, 60, ann, w.side.lies(1)[0])
	w.refuse(t, "of another ledger", 60, challenge(bob, 1, other.side.shown(0, 1)), 132)
	if _, e := witness.Read(other.side.shown(0, 1)); e != 0 {
		t.Errorf("Read: %d", int(e))
	}
}
