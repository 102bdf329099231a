package courier

import (
	"fmt"
	"slices"
	"testing"

	"causeway/api"
)

// Nothing is due where there is no leaf, where none is confirmed, and where all are paid.
func TestP22_3_None(t *testing.T) {
	newWorld(t).wantDue(t, "nothing at all")
	newWorld(t, list(0), send(dan, 1)).wantDue(t, "no leaf")
	w := newWorld(t, leafy(4)...)
	w.wantDue(t, "nothing is asserted")
	w.post(t, w.last()).wantDue(t, "nothing is confirmed")
	w.do(t, 101, confirm(ann)).wantDue(t, "all", 0, 1, 2, 3)
	for index := range 4 {
		w.wantClaim(t, "one by one", dan, 101, index)
	}
	w.wantDue(t, "all are paid")
	w.seen(t, 0).wantDue(t, "all are paid, and the node has none")
}

// Whatever is paid, the others are due, rising: each set of five leaves.
func TestP22_3_SomePaid(t *testing.T) {
	w := newWorld(t, leafy(7)...)
	w.stand(t, w.behind(t, 5))
	for set := range 32 {
		x := w.with(t, 101)
		var left []int
		for index := range 5 {
			if set>>index&1 == 0 {
				left = append(left, index)
			} else {
				x.wantClaim(t, "some", dan, 101, index)
			}
		}
		x.wantDue(t, fmt.Sprintf("%05b are paid", set), left...)
		y := x.with(t, 101).stand(t, x.behind(t, 7))
		y.wantDue(t, fmt.Sprintf("%05b are paid, two more are confirmed", set), append(slices.Clone(left), 5, 6)...)
		y = x.with(t, 101).stand(t, noughts(x.behind(t, 7)))
		y.wantDue(t, fmt.Sprintf("%05b are paid, a lie is confirmed", set))
	}
}

// What is due hangs on the first leaf no more than on any other: where it is paid, too, another outbox is found.
func TestP22_3_FirstIsPaid(t *testing.T) {
	w := newWorld(t, leafy(7)...)
	w.stand(t, w.behind(t, 3))
	for index := range 3 {
		w.wantClaim(t, "ahead", dan, 101, index)
		w.with(t, 101).stand(t, turned(w.behind(t, 6))).wantDue(t, "a lie")
		x := w.with(t, 101).stand(t, w.behind(t, 6))
		if l := sure(Due(x.n, x.c)); len(l) != 5-index || l[0] != index+1 {
			t.Errorf("%d are paid: %v", index+1, l)
		}
	}
}

// Due tells the indexes for which Claim answers OK, by anybody; so does each of many calls.
func TestP22_3_AsClaim(t *testing.T) {
	w := newWorld(t, leafy(30)...)
	w.stand(t, w.behind(t, 17))
	for _, index := range []int{3, 16, 0, 8} {
		w.wantClaim(t, "ahead", dan, 101, index)
	}
	for _, x := range []*world{w, w.with(t, 101).stand(t, w.behind(t, 30)), w.with(t, 101).stand(t, noughts(w.last())), w.seen(t, w.behind(t, 16).Count), w.seen(t, w.behind(t, 18).Count)} {
		for _, by := range []api.Address{{}, ann, zed} {
			var l []int
			for index := -3; index < 40; index++ {
				if _, e := Claim(x.n, x.c, by, index); e == 0 {
					l = append(l, index)
				}
			}
			if got := sure(Due(x.n, x.c)); !slices.Equal(got, l) {
				t.Errorf("Due is %v, and claims are told for %v", got, l)
			}
		}
	}
}

// Very many leaves: what is due is told without a path for each of them.
func TestP22_3_VeryMany(t *testing.T) {
	ops := []api.Op{list(0), token(0), deposit(ann, 0, bob, of(1e9), 100)}
	for i := range steps(400) {
		var parts []api.Letter
		for k := range 8 {
			parts = append(parts, burning(0, cyd, of(uint64(1+8*i+k))))
		}
		ops = append(ops, written(bob, api.Letter{Kind: api.LetterMany, Parts: parts}))
	}
	w := newWorld(t, ops...)
	w.stand(t, w.last())
	all := 8 * steps(400)
	for _, index := range []int{0, all / 2, all - 1} {
		w.do(t, 101, sure(Claim(w.n, w.c, dan, index)))
	}
	l := sure(Due(w.n, w.c))
	if len(l) != all-3 || !slices.IsSorted(l) || l[0] != 1 || l[len(l)-1] != all-2 || slices.Contains(l, all/2) {
		t.Errorf("%d are due", len(l))
	}
}
