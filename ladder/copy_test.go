package ladder

import (
	"fmt"
	"slices"
	"sync"
	"testing"

	"causeway/api"
)

// stuffed is a ladder with gaps and duels, of which some were confirmed: 3, 4, 7 and 8 are pending.
func stuffed(t testing.TB) both {
	t.Helper()
	b := posted(t, 6).row(t, confirm(111), confirm(112), hold(3, 100), hold(5, 100), drop(5))
	return b.row(t, post(at(17, 6), someone(7), 17, 112), post(at(18, 6), someone(8), 18, 115), hold(7, 100), hold(7, 100), hold(8, 100))
}

// turning are calls that are each done on what is stuffed, with all that is told another thing behind them.
func turning() []call {
	return []call{
		post(at(30, 9), someone(9), 30, 120), drop(3), drop(4), drop(7), drop(8), hold(3, 50), hold(4, 50), hold(8, 50), release(3), release(7), release(8),
	}
}

// refused are calls that are each refused on what is stuffed, by every error that there is.
func refused() []struct {
	c      call
	wanted int
} {
	return []struct {
		c      call
		wanted int
	}{
		{post(at(30, 9), someone(9), 30, 114), 168}, {post(at(30, 9), someone(9), 30, -1), 168}, {post(at(30, 9), someone(9), 30, late-9), 168},
		{post(at(18, 9), someone(9), 30, 200), 161}, {post(at(18+1025, 9), someone(9), 9999, 200), 161}, {post(at(30, 5), someone(9), 30, 200), 161}, {post(at(30, full+1), someone(9), 30, 200), 161},
		{post(at(30, 9), someone(9), 29, 200), 162},
		{confirm(114), 168}, {confirm(late + 1), 168}, {confirm(115), 166}, {confirm(900), 166},
		{drop(0), 164}, {drop(1), 164}, {drop(5), 164}, {drop(9), 164},
		{hold(3, -1), 168}, {hold(3, late+1), 168}, {hold(2, 50), 164}, {hold(6, 50), 164}, {hold(3, 113), 167}, {hold(7, 122), 167}, {hold(8, late), 167},
		{release(1), 164}, {release(6), 164}, {release(9), 164}, {release(4), 166},
	}
}

// What is refused turns nothing: all that the ladder tells is asked behind it, and what it does not tell is tried.
func TestR3_Refused(t *testing.T) {
	b := stuffed(t)
	was := b.ladder.Pending()
	for range 2 {
		for _, x := range refused() {
			b.want(t, "refused", x.c, x.wanted)
			if got := b.ladder.Pending(); !slices.Equal(got, was) || b.ladder.Confirmed() != at(10, 3) || b.ladder.Top() != at(18, 6) {
				t.Fatalf("behind %v: %+v, %+v, %+v", x.c, got, b.ladder.Confirmed(), b.ladder.Top())
			}
		}
	}
	b.row(t, release(3), confirm(115), confirm(115))
	b.want(t, "held", confirm(115), 166)
	b.row(t, release(7), release(7))
	b.want(t, "early", confirm(121), 165)
	if got := b.want(t, "the next number", post(at(30, 9), someone(9), 30, 115), 0); got.number != 9 {
		t.Errorf("the next number is %d", got.number)
	}
	whole := posted(t, 32)
	whole.want(t, "full", post(at(200, 99), someone(1), 200, 200), 163)
	whole.want(t, "full", post(at(200, 99), someone(1), 200, 132), 163)
}

func TestP16_7_CopyStandsAsTheFirst(t *testing.T) {
	newBoth(t, at(4, 1), 10).copied().wantTold(t, "a copy of a new one")
	for _, n := range []int{1, 2, 3, 31, 32} {
		b := posted(t, n)
		b.copied().wantTold(t, fmt.Sprint("a copy of ", n))
		b.wantTold(t, fmt.Sprint(n, ", behind a copy"))
	}
	b := stuffed(t)
	c := b.copied()
	c.wantTold(t, "a copy")
	for _, x := range refused() {
		c.want(t, "a copy", x.c, x.wanted)
	}
	b.wantTold(t, "behind what a copy was refused")
}

// Every call on the one is not seen in the other, whichever of the two it is.
func TestP16_7_WhatBecomesOfOneIsNotSeenInTheOther(t *testing.T) {
	for _, one := range turning() {
		for _, two := range turning() {
			for _, which := range []int{0, 1} {
				b := stuffed(t)
				pair := []both{b, b.copied()}
				what := fmt.Sprint(one, " in ", which, ", ", two, " in the other")
				pair[which].want(t, what, one, 0)
				pair[1-which].wantTold(t, what)
				pair[1-which].want(t, what, two, 0)
				pair[which].wantTold(t, what)
			}
		}
	}
}

// The same with Confirm, which cuts the list at its front while the other one goes on writing there.
func TestP16_7_ConfirmInTheOne(t *testing.T) {
	for _, which := range []int{0, 1} {
		b := posted(t, 5)
		pair := []both{b, b.copied()}
		one, two := pair[which], pair[1-which]
		for i := range 5 {
			one.want(t, "confirm", confirm(200), 0)
			two.wantTold(t, "the other one")
			two.want(t, "hold", hold(i+1, 50), 0)
			one.wantTold(t, "the one")
			one.want(t, "post", post(at(50+i, 50), someone(1), 99, 200), 0)
			two.want(t, "post", post(at(60+i, 60), someone(2), 99, 150), 0)
		}
		two.want(t, "drop", drop(1), 0)
		one.wantTold(t, "at last")
	}
}

// Both go on posting behind a Drop, where the list has room that was left.
func TestP16_7_PostInBothBehindADrop(t *testing.T) {
	b := posted(t, 8).row(t, drop(3))
	c := b.copied()
	d := c.copied()
	for i := range 6 {
		for j, x := range []both{b, c, d} {
			x.want(t, "on", post(at(20+i, 20), someone(byte(10*j+i)), 99, 200+j), 0)
		}
	}
	for _, x := range []both{b, c, d} {
		x.wantTold(t, "at last")
	}
}

func TestP16_7_CopiesOfCopies(t *testing.T) {
	all := []both{posted(t, 4)}
	for i := range 10 {
		next := all[i].copied()
		next.want(t, fmt.Sprint("copy ", i), post(at(100+i, 100), someone(byte(i)), 999, 200+i), 0)
		next.want(t, fmt.Sprint("copy ", i), hold(2, 50), 0)
		all = append(all, next)
	}
	for i, b := range all {
		b.wantTold(t, fmt.Sprint("ladder ", i))
		b.want(t, "on", drop(1+i%4), 0)
	}
	for i, b := range all {
		b.wantTold(t, fmt.Sprint("at last, ladder ", i))
	}
}

// scribble writes over a list, its spare room too, and appends to it.
func scribble(l []api.Pending) {
	room := l[:cap(l)]
	for i := range room {
		room[i] = api.Pending{Number: -7, Commit: at(77, 77), Posted: -7, Deadline: -7, Duels: 77}
	}
	_ = append(l, api.Pending{Number: 1}, api.Pending{Number: 2})
}

func TestR4_ListsThatAreWrittenOver(t *testing.T) {
	b := stuffed(t)
	c := b.copied()
	one, two := b.ladder.Pending(), b.ladder.Pending()
	scribble(one)
	if !slices.Equal(two, b.said.of(isPending)) {
		t.Errorf("two answers of Pending share memory: %+v", two)
	}
	b.wantTold(t, "behind Pending")
	c.wantTold(t, "the copy, behind Pending")
	b.want(t, "on", post(at(30, 9), someone(9), 30, 120), 0)
	for _, n := range []int{9, 7, 4, 3} {
		held := b.ladder.Pending()
		got := b.want(t, "drop", drop(n), 0)
		was := slices.Clone(got.list)
		scribble(held)
		if !slices.Equal(got.list, was) {
			t.Errorf("Drop and Pending share memory: %+v", got.list)
		}
		again := b.copied()
		scribble(got.list)
		b.wantTold(t, "behind Drop")
		c.wantTold(t, "the copy, behind Drop")
		again.wantTold(t, "a copy behind Drop")
		b.want(t, "on", post(at(30, 9), someone(9), 30, 120), 0)
		b.want(t, "and away", drop(len(b.said.all)), 0)
	}
}

// What was answered stays as it was, whatever the ladder is told behind it.
func TestR4_AnswersStay(t *testing.T) {
	b := posted(t, 6)
	whole := b.ladder.Pending()
	was := slices.Clone(whole)
	got := b.want(t, "drop", drop(3), 0)
	dropped := slices.Clone(got.list)
	for i := range 10 {
		b.want(t, "on", post(at(20+i, 20), someone(9), 99, 150), 0)
		b.want(t, "on", hold(7+i, 155), 0)
	}
	b.row(t, hold(1, 50), release(1), confirm(150), confirm(150))
	if !slices.Equal(whole, was) || !slices.Equal(got.list, dropped) {
		t.Errorf("what was answered has turned: %+v, %+v", whole, got.list)
	}
}

// Two ladders have nothing to do with each other.
func TestR5_TwoLadders(t *testing.T) {
	one, two := posted(t, 3), posted(t, 3)
	one.row(t, confirm(500), hold(3, 50), drop(2))
	two.wantTold(t, "the other one")
	two.row(t, post(at(14, 4), someone(1), 14, 103))
	one.wantTold(t, "the one")
}

// Who goes on with a copy does not disturb another who goes on with another one, or with the first one, at the same time.
func TestR5_SideBySide(t *testing.T) {
	first := stuffed(t)
	all := []both{first}
	for range 7 {
		all = append(all, first.copied())
	}
	var group sync.WaitGroup
	for i, b := range all {
		group.Go(func() {
			for j, c := range turning() {
				b.do(t, fmt.Sprint("side by side, ladder ", i), c)
				b.do(t, fmt.Sprint("side by side, ladder ", i), post(at(40+j, 40), someone(byte(i)), 99, 130+i))
			}
		})
	}
	group.Wait()
	for i, b := range all {
		b.wantTold(t, fmt.Sprint("at last, ladder ", i))
	}
}

// Very many assertions go by: what is kept does not grow with them.
func TestWays_RoomDoesNotGrow(t *testing.T) {
	l, _ := New(api.Commit{}, 1)
	for i := 1; i <= 20000; i++ {
		n, e := l.Post(api.Commit{Count: i}, someone(1), i, i)
		if i%3 == 0 {
			l.Drop(n)
			n, e = l.Post(api.Commit{Count: i}, someone(2), i, i)
		}
		if n != i+i/3 || e != 0 {
			t.Fatalf("Post: %d, %d", n, int(e))
		}
		if p, e := l.Confirm(i + 1); p.Number != n || e != 0 {
			t.Fatalf("Confirm: %+v, %d", p, int(e))
		}
		if cap(l.pending) > 4*api.MaxPending {
			t.Fatalf("room for %d", cap(l.pending))
		}
	}
}
