package courier

import (
	"fmt"
	"reflect"
	"slices"
	"testing"

	"causeway/api"
)

// Each leaf is paid just its amount, to its To, by whoever claims it, at whatever time the contract takes.
func TestP22_4_Paid(t *testing.T) {
	w := newWorld(t, leafy(9)...)
	w.stand(t, w.behind(t, 8))
	for index := range 8 {
		for i, now := range []int{101, 102, 1 << 40, late} {
			x := w.with(t, 101)
			l := x.side.leaves[index]
			held := bigOf(x.c.Held(l.Token))
			other := x.c.Held(1 - l.Token)
			r := x.wantClaim(t, "each", someone(byte(50+i)), now, index)
			if !reflect.DeepEqual(r, api.Result{Pays: []api.Pay{{Why: 1, Token: l.Token, To: l.To, Amount: l.Amount, Index: index}}}) {
				t.Errorf("%d at %d: %+v", index, now, r)
			}
			if held.Sub(held, bigOf(l.Amount)).Cmp(bigOf(x.c.Held(l.Token))) != 0 || x.c.Held(1-l.Token) != other || x.c.Now() != now {
				t.Errorf("%d at %d: what is held, or the time, is not as it should be", index, now)
			}
			x.wantWords(t, "each")
		}
	}
}

// The operation itself, a second time: ErrEscrowPaid; and Claim tells none any more, whatever is confirmed behind it.
func TestP22_4_Once(t *testing.T) {
	w := newWorld(t, leafy(9)...)
	w.stand(t, w.behind(t, 5))
	o := sure(Claim(w.n, w.c, dan, 2))
	w.do(t, 101, o)
	for range 3 {
		ahead := tell(w.c)
		if r := w.try(w.c.Now(), o); !sameResult(r, api.Result{Code: 147}) && !sameResult(r, api.Result{Code: 187}) || !reflect.DeepEqual(tell(w.c), ahead) {
			t.Errorf("once more: %+v", r)
		}
		w.wantRefused(t, "once more", 222, 2)
		w.wantStage(t, "once more", 2, 4)
		w.stand(t, w.side.commits[w.c.Top().Count+1])
	}
	if r := w.with(t, w.c.Now()).try(w.c.Now()-1, sure(Claim(w.n, w.c, dan, 0))); r.Code != 182 {
		t.Errorf("at a time that is over: %+v", r)
	}
}

// Of a token whose deposits are stopped, too.
func TestP22_4_Stopped(t *testing.T) {
	w := newWorld(t, leafy(9)...)
	w.stand(t, w.behind(t, 9)).do(t, 101, stop(0, 1), stop(1, 1))
	for index := range 9 {
		w.wantClaim(t, "stopped", dan, 101, index)
	}
	w.wantDue(t, "stopped")
}

// A token that is not listed: ErrEscrowNone, and nothing has changed. Once it is listed, and enough is held, the claim is done.
func TestP22_4_None(t *testing.T) {
	w := newWorld(t, leafy(3)...)
	x := w.seen(t, w.behind(t, 2).Count, token(9), deposit(ann, 9, bob, of(40), 100), burn(bob, 9, cyd, 30), deposit(ann, 63, dan, of(3), 100), cancel(ann, 1))
	x.stand(t, count(x.last(), 1))
	x.wantDue(t, "not listed", 0, 1, 2, 3)
	for _, now := range []int{101, 500, late} {
		for _, index := range []int{2, 3} {
			if r := x.wantClaim(t, "not listed", dan, now, index); r.Code != 141 {
				t.Errorf("not listed: %+v", r)
			}
			x.wantStage(t, "not listed", index, 3)
		}
	}
	x.wantDue(t, "refused", 0, 1, 2, 3)
	x.do(t, 101, list(9))
	if r := x.wantClaim(t, "nothing is held", dan, 101, 2); r.Code != 146 {
		t.Errorf("nothing is held: %+v", r)
	}
	x.do(t, 102, deposit(ann, 9, dan, of(30), 100))
	if r := x.wantClaim(t, "enough is held", dan, 102, 2); r.Code != 0 || x.c.Held(9) != of(0) {
		t.Errorf("enough is held: %+v", r)
	}
	x.wantDue(t, "one is paid", 0, 1, 3)
}

// Too little is held: ErrEscrowFunds, and nothing has changed; just enough, and it is paid.
func TestP22_4_Funds(t *testing.T) {
	w := newWorld(t, leafy(3)...)
	held := bigOf(w.c.Held(0)).Uint64()
	x := w.seen(t, 0, token(0), deposit(ann, 0, bob, most(), 100), burn(bob, 0, cyd, held+1), burn(bob, 0, cyd, held), burn(bob, 0, cyd, 1),
		written(bob, burning(0, dan, api.Wide{5, 0, 0, 1})))
	x.stand(t, count(x.last(), 1))
	for _, index := range []int{0, 3} {
		if r := x.wantClaim(t, "one too many", dan, 101, index); r.Code != 146 {
			t.Errorf("one too many: %+v", r)
		}
	}
	x.wantDue(t, "refused", 0, 1, 2, 3)
	y := x.with(t, 101)
	if r := y.wantClaim(t, "just all", dan, 101, 1); r.Code != 0 || y.c.Held(0) != of(0) {
		t.Errorf("just all: %+v", r)
	}
	if r := y.wantClaim(t, "nothing is left", dan, 101, 2); r.Code != 146 {
		t.Errorf("nothing is left: %+v", r)
	}
	x.wantClaim(t, "one less is left", dan, 101, 2)
	if r := x.wantClaim(t, "one less is left", dan, 101, 1); r.Code != 146 {
		t.Errorf("one less is left: %+v", r)
	}
	x.do(t, 102, deposit(ann, 0, dan, of(1), 100))
	if r := x.wantClaim(t, "one more again", dan, 102, 1); r.Code != 0 || x.c.Held(0) != of(0) {
		t.Errorf("one more again: %+v", r)
	}
	x.wantDue(t, "at last", 0, 3)
}

// All that there can be of a token leaves, and comes home.
func TestP22_4_Most(t *testing.T) {
	w := newWorld(t, list(63), token(63), deposit(ann, 63, bob, most(), 100), written(bob, burning(63, cyd, most())))
	w.stand(t, w.last()).wantClaim(t, "all of it", dan, 101, 0)
	if p := w.paid[0]; p.Amount != most() || p.To != cyd || p.Token != 63 || w.c.Held(63) != of(0) {
		t.Errorf("all of it: %+v", p)
	}
	w.wantStages(t, "all of it", 4, 0)
}

// orders are all rows of so many.
func orders(n int) [][]int {
	if n == 0 {
		return [][]int{nil}
	}
	var l [][]int
	for _, o := range orders(n - 1) {
		for i := range n {
			l = append(l, slices.Insert(slices.Clone(o), i, n-1))
		}
	}
	return l
}

// Behind a right confirmed commit every leaf comes home once, in whatever order, and what is due is always what is left.
func TestP22_5_W8_AnyOrder(t *testing.T) {
	w := newWorld(t, leafy(7)...)
	w.stand(t, w.behind(t, 5))
	for _, order := range orders(5) {
		x := w.with(t, 101)
		left := []int{0, 1, 2, 3, 4}
		for _, index := range order {
			x.do(t, 101, sure(Claim(x.n, x.c, dan, index)))
			left = slices.DeleteFunc(left, func(i int) bool { return i == index })
			if l := sure(Due(x.n, x.c)); !slices.Equal(l, left) {
				t.Fatalf("%v, behind %d: %v are due, not %v", order, index, l, left)
			}
		}
		x.wantHome(t, fmt.Sprint(order), 5)
	}
}

// wantHome wants just the first so many leaves to be paid, each its amount, to its To.
func (w *world) wantHome(t testing.TB, what string, n int) {
	t.Helper()
	if len(w.paid) != n {
		t.Errorf("%s: %d are paid, not %d", what, len(w.paid), n)
	}
	for i, l := range w.side.leaves[:n] {
		if p := w.paid[i]; p != (api.Pay{Why: 1, Token: l.Token, To: l.To, Amount: l.Amount, Index: i}) {
			t.Errorf("%s: leaf %d is paid as %+v", what, i, p)
		}
		w.wantStage(t, what, i, 4)
	}
}

// Where the confirmed commit is right, and the node has executed its count, whatever it has behind that: every index below its Leaves that is not paid is due.
func TestP22_5_Right(t *testing.T) {
	w := newWorld(t, leafy(12)...)
	for at, c := range w.side.commits[1:] {
		w.stand(t, c)
		if c.Leaves > 0 && at%2 == 0 {
			w.wantClaim(t, "on the way", dan, w.c.Now(), sure(Due(w.n, w.c))[0])
		}
		var left []int
		for i := range c.Leaves {
			if _, is := w.paid[i]; !is {
				left = append(left, i)
			}
		}
		for _, x := range []*world{w, w.seen(t, c.Count), w.seen(t, c.Count, send(dan, 99)), w.seen(t, c.Count, burn(bob, 0, dan, 9), burn(cyd, 1, dan, 9))} {
			x.wantDue(t, fmt.Sprint("behind ", c.Count), left...)
		}
	}
	for _, index := range sure(Due(w.n, w.c)) {
		w.wantClaim(t, "at last", dan, w.c.Now(), index)
	}
	w.wantHome(t, "at last", 12)
}
