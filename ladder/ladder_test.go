package ladder

import (
	"fmt"
	"math"
	"slices"
	"testing"

	"causeway/api"
)

const (
	full = 1 << 40
	late = 1 << 62
)

func someone(n byte) api.Address { return api.Address{0: n, 7: n ^ 255, 19: n} }

// at is a commit whose roots are all its own.
func at(count, leaves int) api.Commit {
	return api.Commit{Count: count, State: digestOf(byte(count)), Outbox: digestOf(byte(leaves + 100)), Leaves: leaves}
}

func post(c api.Commit, by api.Address, inbox, now int) call {
	return call{name: "Post", commit: c, by: by, inbox: inbox, now: now}
}

func confirm(now int) call      { return call{name: "Confirm", now: now} }
func drop(number int) call      { return call{name: "Drop", number: number} }
func hold(number, now int) call { return call{name: "Hold", number: number, now: now} }
func release(number int) call   { return call{name: "Release", number: number} }

// both is a ladder, and what it is by the words.
type both struct {
	ladder *Ladder
	said   *said
}

func newBoth(t testing.TB, first api.Commit, window int) both {
	t.Helper()
	l, e := New(first, window)
	s, wanted := sayNew(first, window)
	if e != 0 || wanted != 0 {
		t.Fatalf("New(%+v, %d): %d, by the words %d", first, window, int(e), int(wanted))
	}
	return both{l, s}
}

func (b both) copied() both { return both{b.ladder.Copy(), b.said.copied()} }

// wantTold holds all that the ladder tells, and what it does not tell, against the words.
func (b both) wantTold(t testing.TB, what string) {
	t.Helper()
	if text := b.said.differ(b.ladder); text != "" {
		t.Errorf("%s: %s", what, text)
	}
	if text := b.said.differHidden(b.ladder); text != "" {
		t.Errorf("%s: %s", what, text)
	}
}

// do makes a call in both: they must answer the same, and tell the same behind it.
func (b both) do(t testing.TB, what string, c call) answer {
	t.Helper()
	got, wanted := c.inLadder(b.ladder), c.inWords(b.said)
	if !got.same(wanted) {
		t.Errorf("%s, %v: %v, not %v", what, c, got, wanted)
	}
	if got.e != 0 && (got.number != 0 || got.one != api.Pending{} || len(got.list) != 0) {
		t.Errorf("%s, %v: beside an error: %v", what, c, got)
	}
	b.wantTold(t, fmt.Sprint(what, ", behind ", c))
	return got
}

// want makes a call that must be answered with that error, or with none.
func (b both) want(t testing.TB, what string, c call, wanted int) answer {
	t.Helper()
	got := b.do(t, what, c)
	if int(got.e) != wanted {
		t.Errorf("%s, %v: error %d, not %d", what, c, int(got.e), wanted)
	}
	return got
}

// row makes calls that must all be done.
func (b both) row(t testing.TB, calls ...call) both {
	t.Helper()
	for _, c := range calls {
		b.want(t, "ahead", c, 0)
	}
	return b
}

// posted is a ladder of window 10 that begins at 4 entries and 1 leaf, with so many pending ones: number n goes over 3 entries and 1 leaf, is posted at 100 + n, and ends at 110 + n.
func posted(t testing.TB, n int) both {
	t.Helper()
	b := newBoth(t, at(4, 1), 10)
	for i := 1; i <= n; i++ {
		if got := b.do(t, "ahead", post(at(4+3*i, 1+i), someone(byte(i)), 4+3*i, 100+i)); got.number != i || got.e != 0 {
			t.Fatalf("Post: %v", got)
		}
	}
	return b
}

// numbers are those of pending ones.
func numbers(l []api.Pending) []int {
	var n []int
	for _, p := range l {
		n = append(n, p.Number)
	}
	return n
}

func wantNumbers(t testing.TB, what string, l []api.Pending, wanted ...int) {
	t.Helper()
	if got := numbers(l); !slices.Equal(got, wanted) {
		t.Errorf("%s: %v, not %v", what, got, wanted)
	}
}

func TestErrors_Numbers(t *testing.T) {
	for _, x := range []struct {
		got    api.Errno
		wanted int
	}{
		{api.OK, 0}, {api.ErrArg, 1}, {api.ErrLadderForm, 160}, {api.ErrLadderCount, 161}, {api.ErrLadderInbox, 162}, {api.ErrLadderFull, 163}, {api.ErrLadderNone, 164},
		{api.ErrLadderEarly, 165}, {api.ErrLadderHeld, 166}, {api.ErrLadderLate, 167}, {api.ErrLadderTime, 168},
	} {
		if int(x.got) != x.wanted {
			t.Errorf("%d, not %d", int(x.got), x.wanted)
		}
	}
}

func TestLimits(t *testing.T) {
	if api.MaxCount != 1099511627776 || api.MaxTime != 4611686018427387904 || api.MaxSpan != 1024 || api.MaxPending != 32 {
		t.Error("the limits are others")
	}
	b := newBoth(t, api.Commit{}, late)
	b.want(t, "MaxSpan", post(api.Commit{Count: 1025}, someone(1), 9999, 0), 161)
	b.want(t, "MaxSpan", post(api.Commit{Count: 1024}, someone(1), 9999, 0), 0)
	for i := range 31 {
		b.want(t, "MaxPending", post(api.Commit{Count: 1025 + i}, someone(1), 9999, 0), 0)
	}
	b.want(t, "MaxPending", post(api.Commit{Count: 1056}, someone(1), 9999, 0), 163)
	b.want(t, "MaxTime", confirm(late+1), 168)
	b.want(t, "MaxTime", confirm(late), 0)
	wantBytes(t, api.Commit{Count: full + 1}, nil, 160)
}

func TestExamples(t *testing.T) {
	first, c5, c9 := api.Commit{Count: 4, Leaves: 1}, api.Commit{Count: 5, Leaves: 1}, api.Commit{Count: 9, Leaves: 3}
	p, q := someone(1), someone(2)
	one := api.Pending{Number: 1, Commit: c5, Poster: p, Posted: 100, Deadline: 110}
	two := api.Pending{Number: 2, Commit: c9, Poster: q, Posted: 103, Deadline: 113}
	b := newBoth(t, first, 10)
	for i, x := range []struct {
		c      call
		wanted answer
	}{
		{post(c5, p, 5, 100), answer{number: 1}},
		{post(c9, q, 8, 100), answer{e: 162}},
		{post(c5, q, 9, 100), answer{e: 161}},
		{post(api.Commit{Count: 9}, q, 9, 100), answer{e: 161}},
		{post(c9, q, 9, 99), answer{e: 168}},
		{post(c9, q, 9, api.MaxTime-9), answer{e: 168}},
		{post(c9, q, 9, 103), answer{number: 2}},
		{post(api.Commit{Count: 9 + 1025, Leaves: 3}, p, 9999, 103), answer{e: 161}},
		{confirm(109), answer{e: 165}},
		{hold(1, 110), answer{e: 167}},
		{hold(1, 109), answer{}},
		{hold(1, 109), answer{}},
		{confirm(110), answer{e: 166}},
		{release(1), answer{}},
		{release(1), answer{}},
		{release(1), answer{e: 166}},
		{confirm(110), answer{one: one}},
		{confirm(112), answer{e: 165}},
		{confirm(109), answer{e: 168}},
		{drop(1), answer{e: 164}},
		{drop(2), answer{list: []api.Pending{two}}},
		{post(c9, p, 9, 111), answer{number: 3}},
	} {
		if i == 8 {
			wantExamplesBetween(t, b.ladder, []api.Commit{first, c5, c9}, one, two)
		}
		if got := b.do(t, "examples", x.c); !got.same(x.wanted) {
			t.Errorf("row %d, %v: %v, not %v", i, x.c, got, x.wanted)
		}
		if x.c.name == "Drop" && i == 20 && (b.ladder.Confirmed() != c5 || b.ladder.Top() != c5 || len(b.ladder.Pending()) != 0) {
			t.Errorf("behind Drop: %+v, %+v, %+v", b.ladder.Confirmed(), b.ladder.Top(), b.ladder.Pending())
		}
	}
}

// wantExamplesBetween asks what the examples ask between Post and Confirm.
func wantExamplesBetween(t *testing.T, l *Ladder, commits []api.Commit, pending ...api.Pending) {
	t.Helper()
	for i, wanted := range commits[:2] {
		if c, e := l.Before(i + 1); c != wanted || e != 0 {
			t.Errorf("Before(%d): %+v, %d", i+1, c, int(e))
		}
	}
	if c, e := l.Before(3); c != (api.Commit{}) || e != api.ErrLadderNone {
		t.Errorf("Before(3): %+v, %d", c, int(e))
	}
	if l.Top() != commits[2] || l.Confirmed() != commits[0] || !slices.Equal(l.Pending(), pending) {
		t.Errorf("Top, Confirmed, Pending: %+v, %+v, %+v", l.Top(), l.Confirmed(), l.Pending())
	}
}

func TestExamples_BytesAndNew(t *testing.T) {
	wantBytes(t, api.Commit{Count: 1}, append([]byte{65, 1, 1}, make([]byte, 65)...), 0)
	wantBytes(t, api.Commit{Count: -1}, nil, 160)
	for _, x := range []struct {
		first  api.Commit
		wanted api.Errno
	}{{api.Commit{Leaves: full + 1}, api.ErrLadderForm}, {api.Commit{}, api.ErrArg}} {
		if l, e := New(x.first, 0); l != nil || e != x.wanted {
			t.Errorf("New(%+v, 0): %v, %d", x.first, l, int(e))
		}
	}
}

func TestP16_2_New(t *testing.T) {
	windows := []struct {
		n     int
		mayBe bool
	}{{math.MinInt, false}, {-1, false}, {0, false}, {1, true}, {2, true}, {late - 1, true}, {late, true}, {late + 1, false}, {math.MaxInt, false}}
	for _, count := range counts() {
		for _, leaves := range counts() {
			for _, window := range windows {
				first := at(count.n, leaves.n)
				l, e := New(first, window.n)
				wanted := 0
				if !count.mayBe || !leaves.mayBe {
					wanted = 160
				} else if !window.mayBe {
					wanted = 1
				}
				if int(e) != wanted || (l == nil) != (wanted != 0) {
					t.Fatalf("New(%+v, %d): %v, %d, not %d", first, window.n, l, int(e), wanted)
				}
				if l == nil {
					continue
				}
				if l.Confirmed() != first || l.Top() != first || len(l.Pending()) != 0 {
					t.Errorf("New(%+v, %d): %+v, %+v, %+v", first, window.n, l.Confirmed(), l.Top(), l.Pending())
				}
			}
		}
	}
}

func TestP16_2_ConfirmedAndTop(t *testing.T) {
	b := newBoth(t, at(4, 1), 10)
	want := func(what string, confirmed, top api.Commit) {
		t.Helper()
		if b.ladder.Confirmed() != confirmed || b.ladder.Top() != top {
			t.Errorf("%s: Confirmed is %+v, Top is %+v", what, b.ladder.Confirmed(), b.ladder.Top())
		}
	}
	want("new", at(4, 1), at(4, 1))
	b.row(t, post(at(6, 1), someone(1), 6, 0))
	want("one is pending", at(4, 1), at(6, 1))
	b.row(t, post(at(7, 2), someone(1), 7, 3), post(at(9, 9), someone(2), 9, 5))
	want("three are pending", at(4, 1), at(9, 9))
	b.row(t, confirm(10))
	want("the first one is confirmed", at(6, 1), at(9, 9))
	b.row(t, drop(3))
	want("the last one is dropped", at(6, 1), at(7, 2))
	b.row(t, drop(2))
	want("all are dropped", at(6, 1), at(6, 1))
	b.row(t, post(at(8, 1), someone(1), 8, 10))
	want("one goes on from there", at(6, 1), at(8, 1))
	b.row(t, confirm(20))
	want("it is confirmed", at(8, 1), at(8, 1))
}

// What is pending behind a Post is all that was handed in, with its times and no duels.
func TestP16_3_WhatIsPending(t *testing.T) {
	b := newBoth(t, at(4, 1), 10)
	b.row(t, post(at(5, 1), someone(7), 5, 100))
	one := api.Pending{Number: 1, Commit: at(5, 1), Poster: someone(7), Posted: 100, Deadline: 110}
	two := api.Pending{Number: 2, Commit: at(1029, full), Poster: someone(8), Posted: 100, Deadline: 110}
	three := api.Pending{Number: 3, Commit: api.Commit{Count: 1030, Leaves: full}, Posted: 2000, Deadline: 2010}
	b.row(t, post(at(1029, full), someone(8), math.MaxInt, 100), post(api.Commit{Count: 1030, Leaves: full}, api.Address{}, 1030, 2000))
	if got := b.ladder.Pending(); !slices.Equal(got, []api.Pending{one, two, three}) {
		t.Errorf("Pending: %+v", got)
	}
	for i, wanted := range []api.Pending{one, two, three} {
		if got, e := b.ladder.Find(i + 1); got != wanted || e != 0 {
			t.Errorf("Find(%d): %+v, %d", i+1, got, int(e))
		}
	}
}

func TestP16_3_Time(t *testing.T) {
	c := at(5, 1)
	for _, now := range []int{math.MinInt, math.MinInt + 1, -late, -2, -1, late - 9, late - 1, late, late + 1, math.MaxInt - 10, math.MaxInt - 1, math.MaxInt} {
		newBoth(t, at(4, 1), 10).want(t, "at first", post(c, someone(1), 5, now), 168)
		newBoth(t, at(4, 1), 10).row(t, post(c, someone(1), 5, 0)).want(t, "behind 0", post(at(6, 1), someone(1), 6, now), 168)
	}
	for _, now := range []int{0, 1, 100, late - 11, late - 10} {
		b := newBoth(t, at(4, 1), 10)
		b.want(t, "at first", post(c, someone(1), 5, now), 0)
		b.want(t, "one below the last time", post(at(6, 1), someone(1), 6, now-1), 168)
		b.want(t, "at the last time", post(at(6, 1), someone(1), 6, now), 0)
		if p, _ := b.ladder.Find(2); p.Posted != now || p.Deadline != now+10 {
			t.Errorf("at %d: %+v", now, p)
		}
	}
}

// Windows that end at MaxTime, and one second behind it.
func TestP16_3_WindowsThatEndBehindAllTime(t *testing.T) {
	for _, window := range []int{1, 2, 10, 1 << 40, late/2 - 1, late / 2, late/2 + 1, late - 2, late - 1, late} {
		for _, now := range []int{late - window + 1, late - window + 2, late - 1, late} {
			if now > late-window {
				newBoth(t, api.Commit{}, window).want(t, fmt.Sprint("window ", window), post(at(1, 0), someone(1), 1, now), 168)
			}
		}
		b := newBoth(t, api.Commit{}, window)
		b.want(t, "just so", post(at(1, 0), someone(1), 1, late-window), 0)
		if p, _ := b.ladder.Find(1); p.Deadline != late {
			t.Errorf("window %d: the deadline is %d", window, p.Deadline)
		}
		b.want(t, "one below its deadline", confirm(late-1), 165)
		b.want(t, "held in time", hold(1, late-1), 0)
		b.want(t, "held too late", hold(1, late), 167)
		b.want(t, "released", release(1), 0)
		b.want(t, "at the end of all time", confirm(late), 0)
		b.want(t, "behind it", post(at(2, 0), someone(1), 2, late), 168)
		b.want(t, "behind it", confirm(late), 164)
	}
}

func TestP16_3_Counts(t *testing.T) {
	for _, top := range []int{0, 1, 4, 1000, full - 1025, full - 1024, full - 1023, full - 1, full} {
		for _, c := range []int{math.MinInt, math.MinInt + top, -full, -1, 0, top - 1, top, top + 1, top + 2, top + 1023, top + 1024, top + 1025, top + 2048, full - 1, full, full + 1, full + 2, math.MaxInt - 1, math.MaxInt} {
			wanted := 161
			if c > top && c <= top+1024 && c <= full {
				wanted = 0
			}
			first := newBoth(t, at(top, 2), 10)
			first.want(t, fmt.Sprint("behind the confirmed ", top), post(at(c, 2), someone(1), math.MaxInt, 5), wanted)
			if top > 0 { // the same behind one that is pending
				second := newBoth(t, at(top-1, 2), 10).row(t, post(at(top, 2), someone(1), top, 5))
				second.want(t, fmt.Sprint("behind the pending ", top), post(at(c, 2), someone(1), math.MaxInt, 5), wanted)
			}
		}
	}
}

func TestP16_3_Leaves(t *testing.T) {
	for _, top := range []int{0, 1, 7, full - 1, full} {
		for _, c := range []int{math.MinInt, math.MinInt + top, -1, 0, top - 1, top, top + 1, top + 5000, full - 1, full, full + 1, math.MaxInt} {
			wanted := 161
			if c >= top && c <= full {
				wanted = 0
			}
			first := newBoth(t, at(4, top), 10)
			first.want(t, fmt.Sprint("behind the confirmed ", top), post(at(5, c), someone(1), 5, 5), wanted)
			second := newBoth(t, at(3, 0), 10).row(t, post(at(4, top), someone(1), 4, 5))
			second.want(t, fmt.Sprint("behind the pending ", top), post(at(5, c), someone(1), 5, 5), wanted)
		}
	}
}

func TestP16_3_Inbox(t *testing.T) {
	for _, inbox := range []int{math.MinInt, -1, 0, 1, 3, 4, 5, 6, 7} {
		newBoth(t, at(4, 1), 10).want(t, "more than there are", post(at(8, 1), someone(1), inbox, 5), 162)
	}
	for _, inbox := range []int{8, 9, full, full + 1, math.MaxInt} {
		newBoth(t, at(4, 1), 10).want(t, "so many there are", post(at(8, 1), someone(1), inbox, 5), 0)
	}
	newBoth(t, at(full-1, 1), 10).want(t, "one is missing", post(at(full, 1), someone(1), full-1, 5), 162)
	newBoth(t, at(full-1, 1), 10).want(t, "just so", post(at(full, 1), someone(1), full, 5), 0)
}

func TestP16_3_Full(t *testing.T) {
	b := posted(t, 31)
	b.want(t, "the last place", post(at(400, 99), someone(1), 400, 200), 0)
	for range 3 {
		b.want(t, "no place", post(at(401, 99), someone(1), 401, 200), 163)
	}
	b.want(t, "one is confirmed", confirm(200), 0)
	b.want(t, "a place", post(at(401, 99), someone(1), 401, 200), 0)
	b.want(t, "no place", post(at(402, 99), someone(1), 402, 200), 163)
	wantNumbers(t, "the last one goes", b.want(t, "drop", drop(33), 0).list, 33)
	b.want(t, "a place", post(at(401, 99), someone(1), 401, 200), 0)
	b.want(t, "no place", post(at(402, 99), someone(1), 402, 200), 163)
	if len(b.ladder.Pending()) != 32 {
		t.Errorf("%d are pending", len(b.ladder.Pending()))
	}
}

// Every choice of faults, each in several shapes, on a ladder with a place and on one without: the first one tells.
func TestP16_3_SeveralFaults(t *testing.T) {
	for _, n := range []int{31, 32} {
		whole := posted(t, n)
		top := whole.ladder.Top()
		over, leaves := top.Count+1, top.Leaves
		times := []int{150, -1, 0, 99 + n, late - 9, late + 1, math.MinInt, math.MaxInt}
		commits := []api.Commit{at(top.Count+2, leaves), top, at(-1, leaves), at(top.Count+1025, leaves), at(full+1, leaves), at(over, leaves-1), at(over, -1), at(over, full+1), at(math.MinInt, math.MinInt), at(math.MaxInt, math.MaxInt)}
		for i, now := range times {
			for j, c := range commits {
				for k, inbox := range []int{math.MaxInt, top.Count + 1, 0, -1, math.MinInt} {
					wanted := 0
					switch {
					case i > 0:
						wanted = 168
					case j > 0:
						wanted = 161
					case k > 0:
						wanted = 162
					case n == 32:
						wanted = 163
					}
					whole.copied().want(t, fmt.Sprint(n, " pending"), post(c, someone(1), inbox, now), wanted)
				}
			}
		}
		whole.wantTold(t, "behind all of it")
	}
}

// A number is given once, whatever became of it, and refused Posts take none.
func TestP16_3_Numbers(t *testing.T) {
	b := newBoth(t, at(4, 1), 10)
	next := 1
	give := func(now int) {
		t.Helper()
		top := b.ladder.Top()
		b.want(t, "refused", post(at(top.Count, 9), someone(1), 9999, now), 161)
		b.want(t, "refused", post(at(top.Count+1, 9), someone(1), 0, now), 162)
		b.want(t, "refused", post(at(top.Count+1, 9), someone(1), 9999, -1), 168)
		if got := b.want(t, "a number", post(at(top.Count+1, 9), someone(1), 9999, now), 0); got.number != next {
			t.Errorf("number %d, not %d", got.number, next)
		}
		next++
	}
	give(0)
	give(0)
	b.row(t, drop(2))
	give(1)
	b.row(t, drop(1))
	give(2)
	b.row(t, confirm(20))
	give(20)
	b.row(t, drop(5))
	give(20)
	give(20)
	give(20)
	b.row(t, drop(7))
	give(20)
	wantNumbers(t, "pending", b.ladder.Pending(), 6, 9)
	for _, n := range []int{1, 2, 3, 4, 5, 7, 8, 10} {
		b.want(t, "no more", drop(n), 164)
	}
}

func TestP16_4_Confirm(t *testing.T) {
	b := posted(t, 3)
	for _, now := range []int{103, 104, 109, 110} {
		b.want(t, "early", confirm(now), 165)
	}
	one := api.Pending{Number: 1, Commit: at(7, 2), Poster: someone(1), Posted: 101, Deadline: 111}
	if got := b.want(t, "at its deadline", confirm(111), 0); got.one != one {
		t.Errorf("the first one: %+v", got.one)
	}
	if b.ladder.Confirmed() != at(7, 2) {
		t.Errorf("Confirmed: %+v", b.ladder.Confirmed())
	}
	b.want(t, "the next one is early", confirm(111), 165)
	b.want(t, "a time below the last one", confirm(110), 168)
	if got := b.want(t, "long behind it", confirm(9999), 0); got.one.Number != 2 {
		t.Errorf("the second one: %+v", got.one)
	}
	if got := b.want(t, "at the same time", confirm(9999), 0); got.one.Number != 3 {
		t.Errorf("the third one: %+v", got.one)
	}
	b.want(t, "none", confirm(9999), 164)
	b.want(t, "none", confirm(late), 164)
	b.want(t, "none, and too early", confirm(9998), 168)
	b.want(t, "on", post(at(14, 4), someone(1), 14, 9999), 0)
}

func TestP16_4_Time(t *testing.T) {
	for _, now := range []int{math.MinInt, -1, late + 1, math.MaxInt} {
		newBoth(t, at(4, 1), 10).want(t, "none is pending", confirm(now), 168)
		posted(t, 1).want(t, "one is pending", confirm(now), 168)
		posted(t, 1).row(t, hold(1, 5)).want(t, "one is held", confirm(now), 168)
	}
	posted(t, 1).want(t, "the end of all time", confirm(late), 0)
	newBoth(t, at(4, 1), 10).want(t, "none at 0", confirm(0), 164)
	b := newBoth(t, at(4, 1), 10).row(t, post(at(5, 1), someone(1), 5, 0))
	b.want(t, "early at 0", confirm(0), 165)
	b.want(t, "early at 9", confirm(9), 165)
	b.want(t, "at 10", confirm(10), 0)
}

// A Confirm that is done turns the last time, one that is refused does not; nor does anything else but a Post.
func TestP16_4_WhatTurnsTheTime(t *testing.T) {
	next := post(at(10, 3), someone(2), 10, 101)
	posted(t, 1).row(t, confirm(500)).want(t, "behind a Confirm", next, 168)
	b := posted(t, 1).row(t, hold(1, 110))
	b.want(t, "refused", confirm(500), 166)
	b.want(t, "refused", hold(1, 500), 167)
	b.want(t, "refused", post(at(10, 3), someone(2), 9, 500), 162)
	b.row(t, release(1))
	b.want(t, "refused", confirm(110), 165)
	b.want(t, "behind what was refused", next, 0)
	b.row(t, drop(2), drop(1))
	b.want(t, "refused", confirm(700), 164)
	b.want(t, "behind a Drop", post(at(5, 1), someone(2), 5, 101), 0)
	b.want(t, "one below", post(at(6, 1), someone(2), 6, 100), 168)
}

func TestP16_4_SeveralFaults(t *testing.T) {
	held := func() both { return posted(t, 2).row(t, hold(1, 105)) }
	held().want(t, "held and early and a time that may not be", confirm(101), 168)
	held().want(t, "held and early", confirm(102), 166)
	held().want(t, "held and early", confirm(110), 166)
	held().want(t, "held", confirm(111), 166)
	held().want(t, "held", confirm(late), 166)
	posted(t, 2).want(t, "early and a time that may not be", confirm(101), 168)
	posted(t, 2).want(t, "early", confirm(102), 165)
	empty := posted(t, 2).row(t, drop(1))
	empty.want(t, "none and a time that may not be", confirm(101), 168)
	empty.want(t, "none", confirm(102), 164)
}

// Only the first one's duels hold a Confirm, and all of them do.
func TestP16_4_DuelsOpen(t *testing.T) {
	b := posted(t, 3).row(t, hold(2, 100), hold(3, 100), hold(3, 100))
	b.want(t, "the second one's duels", confirm(200), 0)
	b.want(t, "now they count", confirm(200), 166)
	b.row(t, release(2))
	if got := b.want(t, "released", confirm(200), 0); got.one.Number != 2 || got.one.Duels != 0 {
		t.Errorf("%+v", got.one)
	}
	for range 2 {
		b.want(t, "one is open still", confirm(200), 166)
		b.row(t, release(3))
	}
	b.want(t, "none is", confirm(200), 0)
}

func TestP16_5_Drop(t *testing.T) {
	for n := 1; n <= 5; n++ {
		for number := 1; number <= n; number++ {
			b := posted(t, n).row(t, hold(number, 100), hold(n, 100), hold(n, 100))
			was := b.ladder.Pending()
			got := b.want(t, fmt.Sprint("of ", n), drop(number), 0)
			if !slices.Equal(got.list, was[number-1:]) {
				t.Errorf("Drop(%d) of %d: %+v, not %+v", number, n, got.list, was[number-1:])
			}
			if left := b.ladder.Pending(); !slices.Equal(left, was[:number-1]) {
				t.Errorf("Drop(%d) of %d: %+v are left", number, n, left)
			}
			for again := number; again <= n; again++ {
				b.want(t, "dropped already", drop(again), 164)
			}
			if got := b.want(t, "on", post(at(99, 50), someone(1), 99, 200), 0); got.number != n+1 {
				t.Errorf("the next number is %d", got.number)
			}
		}
	}
}

func TestP16_5_NoSuchNumber(t *testing.T) {
	b := posted(t, 3).row(t, confirm(111), drop(3))
	for _, n := range []int{math.MinInt, -3, -2, -1, 0, 1, 3, 4, 5, 1<<32 + 2, math.MaxInt} {
		b.want(t, "none", drop(n), 164)
		b.want(t, "none", release(n), 164)
		b.want(t, "none", hold(n, 50), 164)
	}
	empty := newBoth(t, at(4, 1), 10)
	for _, n := range []int{-1, 0, 1} {
		empty.want(t, "none is pending", drop(n), 164)
	}
	wantNumbers(t, "the one that is left", b.want(t, "drop", drop(2), 0).list, 2)
}

// Numbers with gaps: what stands behind one is dropped, whatever its number.
func TestP16_5_Gaps(t *testing.T) {
	b := posted(t, 4).row(t, drop(3))
	b.row(t, post(at(20, 9), someone(9), 20, 104), post(at(21, 9), someone(9), 21, 104), drop(6), post(at(22, 9), someone(9), 22, 104))
	wantNumbers(t, "with gaps", b.ladder.Pending(), 1, 2, 5, 7)
	for _, n := range []int{3, 4, 6, 8} {
		b.want(t, "a gap", drop(n), 164)
	}
	c := b.copied()
	wantNumbers(t, "from 2 on", c.want(t, "drop", drop(2), 0).list, 2, 5, 7)
	wantNumbers(t, "from 5 on", b.want(t, "drop", drop(5), 0).list, 5, 7)
	wantNumbers(t, "left", b.ladder.Pending(), 1, 2)
}

func TestP16_6_Hold(t *testing.T) {
	b := posted(t, 3) // deadlines 111, 112, 113
	for number := 1; number <= 3; number++ {
		end := 110 + number
		for _, now := range []int{0, 1, 99, end - 2, end - 1} {
			was, _ := b.ladder.Find(number)
			b.want(t, "in time", hold(number, now), 0)
			if p, _ := b.ladder.Find(number); p.Duels != was.Duels+1 {
				t.Errorf("Hold(%d, %d): %d duels behind %d", number, now, p.Duels, was.Duels)
			}
		}
		for _, now := range []int{end, end + 1, 9999, late - 1, late} {
			b.want(t, "late", hold(number, now), 167)
		}
		for _, now := range []int{math.MinInt, -1, late + 1, math.MaxInt} {
			b.want(t, "a time that may not be", hold(number, now), 168)
			b.want(t, "a time that may not be, of none", hold(99, now), 168)
		}
		b.want(t, "none, and late", hold(99, 9999), 164)
	}
	for i, p := range b.ladder.Pending() {
		if p.Duels != 5 || p.Number != i+1 {
			t.Errorf("%+v", p)
		}
	}
}

func TestP16_6_Release(t *testing.T) {
	b := posted(t, 3)
	for number := 1; number <= 3; number++ {
		b.want(t, "none is open", release(number), 166)
	}
	for range 4 {
		b.row(t, hold(2, 50))
	}
	b.row(t, hold(3, 50))
	for i := range 4 {
		b.want(t, "another one's", release(1), 166)
		b.want(t, "one less", release(2), 0)
		if p, _ := b.ladder.Find(2); p.Duels != 3-i {
			t.Errorf("%d duels", p.Duels)
		}
	}
	b.want(t, "more often than Hold", release(2), 166)
	b.want(t, "again", hold(2, 50), 0)
	b.want(t, "again", release(2), 0)
	b.want(t, "more often than Hold", release(2), 166)
	if p, _ := b.ladder.Find(3); p.Duels != 1 {
		t.Errorf("the third one has %d duels", p.Duels)
	}
}

// What is held and released behind a Drop is what stands there, not what stood there once.
func TestP16_6_NumbersBehindADrop(t *testing.T) {
	b := posted(t, 3).row(t, hold(1, 50), hold(2, 50), hold(3, 50), hold(3, 50), drop(2))
	b.row(t, post(at(10, 9), someone(4), 10, 103), post(at(11, 9), someone(5), 11, 103))
	for _, n := range []int{2, 3} {
		b.want(t, "dropped", hold(n, 50), 164)
		b.want(t, "dropped", release(n), 164)
	}
	for _, n := range []int{4, 5} {
		if p, e := b.ladder.Find(n); p.Duels != 0 || e != 0 {
			t.Errorf("Find(%d): %+v, %d", n, p, int(e))
		}
		b.want(t, "new", release(n), 166)
		b.want(t, "new", hold(n, 112), 0)
		b.want(t, "new, late", hold(n, 113), 167)
	}
	b.row(t, release(1), confirm(111))
	b.want(t, "confirmed", hold(1, 50), 164)
	b.want(t, "confirmed", release(1), 164)
}

func TestP16_7_FindBeforePending(t *testing.T) {
	b := posted(t, 3)
	want := func(what string, wanted ...api.Pending) {
		t.Helper()
		if got := b.ladder.Pending(); !slices.Equal(got, wanted) {
			t.Errorf("%s: Pending is %+v, not %+v", what, got, wanted)
		}
		ahead := b.ladder.Confirmed()
		for _, p := range wanted {
			if got, e := b.ladder.Find(p.Number); got != p || e != 0 {
				t.Errorf("%s: Find(%d) is %+v, %d", what, p.Number, got, int(e))
			}
			if got, e := b.ladder.Before(p.Number); got != ahead || e != 0 {
				t.Errorf("%s: Before(%d) is %+v, %d, not %+v", what, p.Number, got, int(e), ahead)
			}
			ahead = p.Commit
		}
	}
	p := func(n, duels int) api.Pending {
		return api.Pending{Number: n, Commit: at(4+3*n, 1+n), Poster: someone(byte(n)), Posted: 100 + n, Deadline: 110 + n, Duels: duels}
	}
	want("posted", p(1, 0), p(2, 0), p(3, 0))
	b.row(t, hold(2, 50))
	want("held", p(1, 0), p(2, 1), p(3, 0))
	b.row(t, confirm(111))
	want("confirmed", p(2, 1), p(3, 0))
	if c, _ := b.ladder.Before(2); c != at(7, 2) {
		t.Errorf("Before(2) behind a Confirm: %+v", c)
	}
	b.row(t, drop(3))
	want("dropped", p(2, 1))
	four := api.Pending{Number: 4, Commit: at(12, 3), Poster: someone(9), Posted: 111, Deadline: 121}
	b.row(t, post(four.Commit, four.Poster, 12, 111))
	want("posted again", p(2, 1), four)
	b.row(t, release(2), drop(2))
	want("all dropped")
}

func TestR1_Nil(t *testing.T) {
	var l *Ladder
	for _, c := range []call{post(at(5, 1), someone(1), 5, 5), confirm(5), drop(1), hold(1, 5), hold(1, -1), release(1)} {
		if got := c.inLadder(l); !got.same(answer{e: api.ErrArg}) {
			t.Errorf("%v of nil: %v", c, got)
		}
	}
	if p, e := l.Find(1); p != (api.Pending{}) || e != api.ErrArg {
		t.Errorf("Find of nil: %+v, %d", p, int(e))
	}
	if c, e := l.Before(1); c != (api.Commit{}) || e != api.ErrArg {
		t.Errorf("Before of nil: %+v, %d", c, int(e))
	}
	if l.Pending() != nil || l.Confirmed() != (api.Commit{}) || l.Top() != (api.Commit{}) || l.Copy() != nil {
		t.Error("nil tells something")
	}
}
