package guard

import (
	"fmt"
	"math"
	"slices"
	"testing"

	"causeway/api"
	"causeway/contract"
	"causeway/ladder"
	"causeway/node"
)

func TestNumbers(t *testing.T) {
	for i, x := range [][2]int{
		{int(api.OK), 0}, {int(api.ErrArg), 1}, {int(api.ErrGuardMe), 210}, {int(api.ErrGuardBehind), 211}, {int(api.ErrGuardNothing), 212},
		{api.MaxWorkers, 16}, {api.MaxOps, 256}, {api.MaxSpan, 1024}, {api.MaxReplay, 32}, {api.MaxPending, 32}, {api.MaxTime, 1 << 62},
		{api.OpChallenge, 7}, {api.OpDuel, 8}, {api.OpSplit, 9}, {api.OpPick, 10}, {api.OpProve, 11}, {api.OpExpire, 12},
		{api.DuelSplit, 1}, {api.DuelPick, 2}, {api.DuelProve, 3},
	} {
		if x[0] != x[1] {
			t.Errorf("number %d is %d, not %d", i, x[0], x[1])
		}
	}
}

// The chapter's rows, one by one. P, M and Q are its addresses.
func TestExamples(t *testing.T) {
	p, m, q := api.Address{1}, api.Address{2}, api.Address{3}
	w := newWorld(t, 40)

	w.wantAssert(t, "nothing", w.ours(40), 0)

	x := w.with(t, 100, post(p, w.ours(40)))
	x.wantAssert(t, "C(40)", api.Commit{}, 212)
	x.wantJudge(t, "C(40)", api.Verdict{Number: 1, Known: true, Right: true})

	x = w.with(t, 100, post(p, w.other(5)))
	x.wantJudge(t, "X(5)", api.Verdict{Number: 1, Known: true})
	x.wantAssert(t, "X(5)", api.Commit{}, 212)
	x.wantWatch(t, "X(5)", m, 100, challenge(m, 1, w.side.shown(0, 5)))
	x.wantWatch(t, "X(5)", m, 1100)

	x = w.with(t, 100, post(p, w.other(40)))
	x.wantWatch(t, "X(40)", m, 100, fight(m, 1))
	x.wantWatch(t, "X(40)", p, 100)

	x.do(t, 110, fight(m, 1))
	x.wantWatch(t, "a duel", m, 210)
	x.wantWatch(t, "a duel", m, 211, expire(m, 1, m))
	x.wantWatch(t, "a duel", q, 211, fight(q, 1), expire(q, 1, m))

	x.with(t, 210, split(p, 1, m, w.ours(20))).wantWatch(t, "C(20) in the middle", m, 215, pick(m, 1, 1))
	x.with(t, 210, split(p, 1, m, w.other(20))).wantWatch(t, "X(20) in the middle", m, 215, pick(m, 1, 0))

	x = w.with(t, 100, post(p, w.ours(40))).do(t, 110, fight(q, 1))
	x.wantDefend(t, "C(40), and a duel", p, 200, split(p, 1, q, w.ours(20)))
	x.wantDefend(t, "C(40), and a duel", p, 211)
	x.wantDefend(t, "C(40), and a duel", q, 200)

	x = w.with(t, 100, post(p, w.ours(3)), post(p, w.other(6)), post(p, w.other(9)))
	x.wantWatch(t, "C(3), X(6), X(9)", m, 100, challenge(m, 2, w.side.shown(3, 6)))

	for _, y := range []*world{w, x} {
		wantRefused(t, y.n, y.c, -1, 0, 1)
		wantRefused(t, y.n, y.c, 5, 0, 210)
		wantRefused(t, nil, y.c, 5, 1, 1)
	}
}

// wantRefused asks Watch, which must refuse.
func wantRefused(t testing.TB, n *node.Node, c *contract.Contract, now, workers int, code api.Errno) {
	t.Helper()
	if l, e := Watch(n, c, wes, now, workers); e != code || l != nil {
		t.Errorf("Watch at %d by %d: %s, %d, not %d", now, workers, textOf(l...), int(e), int(code))
	}
}

// A node, a contract, a time, a number of workers, of which each may be wrong: ErrArg ahead of ErrGuardMe, and both ahead of all else.
func TestR1_R2_Arguments(t *testing.T) {
	w := newWorld(t, 40).with(t, 100, post(bob, api.Commit{Count: 5}), post(bob, api.Commit{Count: 40}))
	behind := w.seen(t, 3)
	for _, n := range []*node.Node{nil, w.n, behind.n} {
		for _, c := range []*contract.Contract{nil, w.c} {
			isNil := n == nil || c == nil
			b, e := Assert(n, c)
			if isNil && (e != 1 || b != nil) {
				t.Errorf("Assert: %x, %d", b, int(e))
			}
			for _, workers := range []int{math.MinInt, -1, 0, 1, 2, 16, 17, 1 << 32, 1<<32 + 1, math.MaxInt} {
				wanted := api.Errno(0)
				switch {
				case isNil:
					wanted = 1
				case workers < 1 || workers > 16:
					wanted = 210
				}
				if l, e := Judge(n, c, workers); e != wanted || e != 0 && l != nil || e == 0 && len(l) != 2 {
					t.Errorf("Judge by %d: %v, %d, not %d", workers, l, int(e), int(wanted))
				}
				for _, now := range []int{math.MinInt, -1, 0, 5, late, late + 1, math.MaxInt} {
					if wanted == 210 && (now < 0 || now > late) {
						wantRefused(t, n, c, now, workers, 1)
					} else if wanted != 0 || now < 0 || now > late {
						wantRefused(t, n, c, now, workers, max(1, wanted))
					} else if _, e := Watch(n, c, wes, now, workers); e != 0 {
						t.Errorf("Watch at %d by %d: %d", now, workers, int(e))
					}
				}
			}
			for _, now := range []int{math.MinInt, -1, 0, 5, late, late + 1, math.MaxInt} {
				wanted := api.Errno(0)
				if isNil || now < 0 || now > late {
					wanted = 1
				}
				if l, e := Defend(n, c, wes, now); e != wanted || len(l) != 0 {
					t.Errorf("Defend at %d: %s, %d, not %d", now, textOf(l...), int(e), int(wanted))
				}
			}
		}
	}
}

// At the first and the last time that there is, with duels whose turns end there.
func TestP21_3_EndsOfTime(t *testing.T) {
	w := newWorld(t, 40)
	x := w.with(t, 100, post(bob, w.other(40)), fight(wes, 1), fight(cyd, 1))
	for _, me := range []api.Address{wes, cyd, bob, dan} {
		for _, now := range []int{0, 1, 99, 100, 200, 201, late - 1, late} {
			x.wantWords(t, "over long ago", me, now, 3)
		}
	}
	x.wantWatch(t, "at last", wes, late, expire(wes, 1, wes), expire(wes, 1, cyd))
	x.wantWatch(t, "at first", wes, 0)
	x.wantDefend(t, "at first", bob, 0, split(bob, 1, cyd, w.ours(20)), split(bob, 1, wes, w.ours(20)))
	x.wantDefend(t, "at last", bob, late)
	end := w.with(t, late-1000, post(bob, w.other(40))).do(t, late-100, fight(wes, 1)).do(t, late-50, split(bob, 1, wes, w.ours(20)))
	if d := end.duel(t, 1, wes); d.Until != late {
		t.Fatalf("Until is %d", d.Until)
	}
	end.wantWatch(t, "a turn that ends with time", wes, late, pick(wes, 1, 1))
	end.wantWatch(t, "a turn that ends with time", cyd, late)
	end.wantWatch(t, "ahead of it", cyd, late-1, fight(cyd, 1))
	end.wantDefend(t, "a turn that ends with time", bob, late)
}

func TestP21_1_Assert(t *testing.T) {
	w := newWorld(t, 40)
	var seen []*world // by how many entries the node has
	for first := range 41 {
		seen = append(seen, w.seen(t, first))
	}
	for top := range 41 {
		x := w
		if top > 0 {
			x = w.with(t, 5, post(ann, w.ours(top)))
		}
		for first, y := range seen {
			what := fmt.Sprint(first, " of 40, the top is ", top)
			y = &world{x.c, y.n, y.side}
			switch {
			case first < top:
				y.wantAssert(t, what, api.Commit{}, 211)
			case first == top:
				y.wantAssert(t, what, api.Commit{}, 212)
			default:
				y.wantAssert(t, what, w.ours(first), 0)
				y.wantPosted(t, what)
			}
		}
	}
}

// A node whose inbox is another one from some entry on: what it has behind that does not count.
func TestP21_1_AnotherInbox(t *testing.T) {
	w := newWorld(t, 40)
	others := []api.Op{send(ann, 77), burn(bob, 0, cyd, 3), send(ann, 78), deposit(bob, 0, bob, 1, 100)}
	for _, first := range []int{0, 1, 20, 25, 39, 40} {
		x := w.seen(t, first, others...)
		if first > 0 {
			x.wantAssert(t, "another inbox", w.ours(first), 0)
		} else {
			x.wantAssert(t, "another inbox", api.Commit{}, 212)
		}
		for _, top := range []int{1, 20, 25, 26, 29, 40} {
			y := w.with(t, 5, post(ann, w.ours(top))).seen(t, first, others...)
			switch {
			case first < top:
				y.wantAssert(t, "another inbox", api.Commit{}, 211)
			case first == top:
				y.wantAssert(t, "another inbox", api.Commit{}, 212)
			default:
				y.wantAssert(t, "another inbox", w.ours(first), 0)
			}
		}
		// What is right for the node alone is not known.
		if first < 37 {
			y := w.with(t, 5, post(ann, x.ours(first+2))).seen(t, first, others...)
			y.wantAssert(t, "the node's own", api.Commit{}, 211)
			y.wantJudge(t, "the node's own", api.Verdict{Number: 1})
			y.wantWatch(t, "the node's own", wes, 5)
		}
	}
}

// A node of another admin, and one of the same who has nothing, and a contract without entries.
func TestP21_1_AtTheBeginning(t *testing.T) {
	empty := newWorld(t, 0)
	empty.wantAssert(t, "no entries", api.Commit{}, 212)
	empty.wantJudge(t, "no entries")
	empty.wantWatch(t, "no entries", wes, 1)
	w := newWorld(t, 40)
	w.seen(t, 0).wantAssert(t, "an empty node", api.Commit{}, 212)
	strange := &world{c: w.c, n: node.New(ann), side: newSide(ann)}
	strange.follow(t).wantAssert(t, "another admin", api.Commit{}, 212)
	strange = &world{c: w.with(t, 5, post(ann, strange.ours(5)), post(ann, strange.ours(40))).c, n: strange.n, side: strange.side}
	strange.wantAssert(t, "another admin, whose commits are pending", api.Commit{}, 212)
	strange.wantJudge(t, "another admin, whose commits are pending", api.Verdict{Number: 1, Known: true, Right: true}, api.Verdict{Number: 2, Known: true, Right: true})
	strange.wantWatch(t, "another admin, whose commits are pending", wes, 5)
	w.with(t, 5, post(ann, strange.ours(5))).wantWatch(t, "the same, seen rightly", wes, 5, challenge(wes, 1, w.side.shown(0, 5)))
}

// What is wrong stands in the way, wherever it stands and in whichever part it is wrong; but that the node is behind is told first.
func TestP21_1_Wrong(t *testing.T) {
	w := newWorld(t, 40)
	for k := range w.side.lies(5) {
		lie := func(count int) api.Commit { return w.side.lies(count)[k] }
		confirmed := w.with(t, 5, post(bob, lie(5))).do(t, 1005, confirm(bob))
		for what, x := range map[string]*world{
			"the first":                    w.with(t, 5, post(bob, lie(5))),
			"behind right ones":            w.with(t, 5, post(bob, w.ours(3)), post(bob, w.ours(4)), post(bob, lie(5))),
			"ahead of right ones":          w.with(t, 5, post(bob, lie(5)), post(bob, lie(39))),
			"the confirmed one":            confirmed,
			"the confirmed one, and right": confirmed.with(t, 1005, post(bob, api.Commit{Count: 6, State: w.ours(6).State, Outbox: w.ours(6).Outbox, Leaves: lie(5).Leaves})),
		} {
			x.wantAssert(t, what, api.Commit{}, 212)
			x.seen(t, 39).wantAssert(t, what+", seen by less", api.Commit{}, 212)
			x.seen(t, 4).wantAssert(t, what+", the node is behind", api.Commit{}, 211)
			x.seen(t, 4, send(ann), send(bob), send(cyd)).wantAssert(t, what+", the node has another inbox", api.Commit{}, 211)
		}
		x := w.with(t, 5, post(bob, lie(5)), post(bob, lie(40)))
		x.wantAssert(t, "all of it", api.Commit{}, 212)
		x.seen(t, 39).wantAssert(t, "a lie, and one that is not known", api.Commit{}, 211)
	}
	right := w.with(t, 5, post(bob, w.ours(5)), post(ann, w.ours(39)))
	right.wantAssert(t, "two right ones", w.ours(40), 0)
	right.do(t, 1005, confirm(bob), confirm(bob)).wantAssert(t, "confirmed", w.ours(40), 0)
}

// long is a world of many entries, which do little.
func long(t testing.TB, entries int) *world {
	t.Helper()
	w := &world{c: sure(contract.New(usual())), n: node.New(zed), side: newSide(zed)}
	for i := range entries {
		w.do(t, 1, send(bob, byte(i), byte(i>>8)))
	}
	return w.follow(t)
}

// Of more than MaxSpan entries that are left the first MaxSpan are asserted.
func TestP21_1_Span(t *testing.T) {
	w := long(t, 2100)
	for _, x := range []struct{ top, first, wanted int }{
		{0, 1023, 1023}, {0, 1024, 1024}, {0, 1025, 1024}, {0, 2100, 1024},
		{3, 1026, 1026}, {3, 1027, 1027}, {3, 1028, 1027}, {3, 2100, 1027},
		{1024, 2047, 2047}, {1024, 2048, 2048}, {1024, 2049, 2048}, {1024, 2100, 2048},
	} {
		y := w
		if x.top > 0 {
			y = w.with(t, 5, post(bob, w.ours(x.top)))
		}
		y = y.seen(t, x.first)
		y.wantAssert(t, fmt.Sprint(x), w.ours(x.wanted), 0)
		y.wantPosted(t, fmt.Sprint(x))
	}
	x := w
	for i := range 3 { // what is asserted, one behind the other
		x = x.with(t, 5+i, post(ann, sure(ladder.Read(sure(Assert(x.n, x.c))))))
	}
	if top := x.c.Top(); top != w.ours(2100) {
		t.Errorf("at last the top is %v", top)
	}
	x.wantAssert(t, "all of it", api.Commit{}, 212)
}

// wantPosted lets what is asserted be posted: it is right, and refused by nothing but that no more may be pending.
func (w *world) wantPosted(t testing.TB, what string) {
	t.Helper()
	body, e := Assert(w.n, w.c)
	if e != 0 {
		return
	}
	said, f := ladder.Read(body)
	if f != 0 || !w.side.right(w.c, said) {
		t.Errorf("%s: what is asserted is %v, %d", what, said, int(f))
	}
	for _, now := range []int{w.c.Now(), w.c.Now() + 1, late - w.c.Config().Window} {
		x, pending := w.c.Copy(), len(w.c.Pending())
		r := x.Do(now, api.Op{Kind: 5, By: dan, Body: body})
		if r.Code == 163 && pending == 32 {
			continue
		}
		if r.Code != 0 || r.Number == 0 || x.Top() != said || len(x.Pending()) != pending+1 {
			t.Errorf("%s: posted at %d: %+v", what, now, r)
		}
	}
}

// What is asserted can be posted, till as many are pending as may be.
func TestP21_6_Posted(t *testing.T) {
	w := newWorld(t, 40)
	x := w.with(t, 5)
	x.wantPosted(t, "nothing is pending")
	for i := range 32 {
		x.do(t, 5, post(ann, w.ours(i+1)))
		x.wantPosted(t, fmt.Sprint(i+1, " are pending"))
		x.seen(t, i+2).wantPosted(t, fmt.Sprint(i+1, " are pending, one is left"))
	}
	if r := x.c.Copy().Do(5, api.Op{Kind: 5, By: dan, Body: sure(Assert(x.n, x.c))}); r.Code != 163 {
		t.Errorf("behind 32 pending ones: %+v", r)
	}
	x.do(t, 1005, confirm(ann)).wantPosted(t, "one is confirmed")
}

func TestP21_2_Judge(t *testing.T) {
	w := newWorld(t, 40)
	w.wantJudge(t, "none")
	yes, no, none := api.Verdict{Known: true, Right: true}, api.Verdict{Known: true}, api.Verdict{}
	numbered := func(l ...api.Verdict) []api.Verdict {
		l = slices.Clone(l)
		for i := range l {
			l[i].Number = i + 1
		}
		return l
	}
	w.with(t, 5, post(bob, w.ours(40))).wantJudge(t, "right", numbered(yes)...)
	for k, lie := range w.side.lies(40) {
		w.with(t, 5, post(bob, lie)).wantJudge(t, fmt.Sprint("lie ", k), numbered(no)...)
		w.with(t, 5, post(bob, lie)).seen(t, 39).wantJudge(t, fmt.Sprint("lie ", k, ", not known"), numbered(none)...)
	}
	w.with(t, 5, post(bob, w.ours(40))).seen(t, 39).wantJudge(t, "not known", numbered(none)...)
	w.with(t, 5, post(bob, w.ours(39))).seen(t, 39).wantJudge(t, "just known", numbered(yes)...)

	x, all := w.with(t, 5), []api.Verdict(nil)
	for i := range 32 {
		if i%3 == 1 || i%5 == 4 {
			x.do(t, 5, post(bob, w.side.lies(i + 1)[i%2*3]))
			all = append(all, no)
		} else {
			x.do(t, 5, post(bob, w.ours(i+1)))
			all = append(all, yes)
		}
	}
	all = numbered(all...)
	x.wantJudge(t, "as many as may be", all...)
	for _, first := range []int{0, 1, 2, 15, 16, 31, 32} {
		l := slices.Clone(all)
		for i := first; i < 32; i++ {
			l[i] = api.Verdict{Number: i + 1}
		}
		x.seen(t, first).wantJudge(t, fmt.Sprint("as many as may be, ", first, " known"), l...)
		x.seen(t, first, send(ann, 1), send(ann, 2)).wantJudge(t, fmt.Sprint("as many as may be, ", first, " known, and others"), l...)
	}
	// Numbers are those of the assertions, not of their places.
	x.do(t, 1005, confirm(ann)).wantJudge(t, "one is confirmed", all[1:]...)
	y := w.with(t, 5, post(bob, w.other(5))).do(t, 6, challenge(wes, 1, w.side.shown(0, 5))).do(t, 7, post(bob, w.other(6)), post(bob, w.other(7)))
	y.wantJudge(t, "one was dropped", api.Verdict{Number: 2, Known: true}, api.Verdict{Number: 3, Known: true})
}

// The stroke where there is no duel of mine: what stands pending, when, how long, and whose it is.
func TestP21_3_Strike(t *testing.T) {
	w := newWorld(t, 80)
	w.wantWatch(t, "none is pending", wes, 5)
	w.with(t, 5, post(bob, w.ours(3)), post(bob, w.ours(70))).wantWatch(t, "all are right", wes, 5)

	for _, first := range []int{0, 3, 40} {
		for _, span := range []int{1, 2, 31, 32, 33, 34, 40} {
			ops := []api.Op{post(bob, w.other(first+span))}
			number := 1
			if first > 0 {
				ops, number = append([]api.Op{post(ann, w.ours(first))}, ops...), 2
			}
			x, what := w.with(t, 100, ops...), fmt.Sprint(span, " entries from ", first)
			stroke, own := []api.Op{fight(wes, number)}, []api.Op(nil)
			if span <= 32 {
				body := w.side.shown(first, first+span)
				stroke, own = []api.Op{challenge(wes, number, body)}, []api.Op{challenge(bob, number, body)}
			}
			for _, now := range []int{0, 99, 100, 1098, 1099} {
				x.wantWatch(t, what, wes, now, stroke...)
				x.wantWatch(t, what+", my own", bob, now, own...)
			}
			for _, now := range []int{1100, 1101, late} {
				x.wantWatch(t, what+", late", wes, now)
				x.wantWatch(t, what+", late, my own", bob, now)
			}
			x.seen(t, first+span-1).wantWatch(t, what+", not known", wes, 100)
			x.seen(t, first+span-1, send(ann, 1), send(ann, 2)).wantWatch(t, what+", not known, and others", wes, 100)
			x.seen(t, first+span).wantWatch(t, what+", just known", wes, 100, stroke...)
		}
	}
}

// Where the first one that is not right is not known, or the confirmed one is not right, there is no stroke; what is over is told all the same.
func TestP21_3_NoStroke(t *testing.T) {
	w := newWorld(t, 80)
	x := w.with(t, 5, post(bob, w.ours(3)), post(bob, w.other(20)), post(bob, w.other(25)), fight(dan, 2))
	for first := range 20 {
		x.seen(t, first).wantWatch(t, fmt.Sprint(first, " known"), wes, 105)
		x.seen(t, first).wantWatch(t, fmt.Sprint(first, " known, what is over"), wes, 106, expire(wes, 2, dan))
		x.seen(t, first, append([]api.Op{send(dan, 200)}, lines(30)...)...).wantWatch(t, fmt.Sprint(first, " known, and others"), wes, 106, expire(wes, 2, dan))
	}
	x.seen(t, 20).wantWatch(t, "20 known", wes, 106, challenge(wes, 2, w.side.shown(3, 20)), expire(wes, 2, dan))
	for k, lie := range w.side.lies(5) {
		y := w.with(t, 5, post(bob, lie)).do(t, 1005, confirm(bob)).do(t, 1006, post(bob, w.side.lies(7)[k]), post(cyd, w.side.lies(50)[k]), fight(dan, 3))
		y.wantWatch(t, "a lie is confirmed", wes, 1106)
		y.wantWatch(t, "a lie is confirmed, mine", dan, 1106)
		y.wantWatch(t, "a lie is confirmed, what is over", wes, 1107, expire(wes, 3, dan))
		y.wantWatch(t, "a lie is confirmed, what is over, mine", dan, 1107, expire(dan, 3, dan))
		y.seen(t, 4).wantWatch(t, "what is confirmed is not known", wes, 1107, expire(wes, 3, dan))
	}
	y := w.with(t, 5, post(bob, w.ours(40))).do(t, 1005, confirm(bob)).do(t, 1006, post(bob, w.other(45)))
	y.wantWatch(t, "what is confirmed is right", wes, 1006, challenge(wes, 2, w.side.shown(40, 45)))
	y.seen(t, 44).wantWatch(t, "what is pending is not known", wes, 1006)
	y.seen(t, 39).wantWatch(t, "what is confirmed is not known", wes, 1006)
}

// Of several that are not right the first one is struck, whatever is behind it, and in whichever part it is wrong.
func TestP21_3_TheFirst(t *testing.T) {
	w := newWorld(t, 80)
	for k := range w.side.lies(5) {
		lie := func(count int) api.Commit { return w.side.lies(count)[k] }
		for right := range 6 {
			var ops []api.Op
			for i := range right {
				ops = append(ops, post(ann, w.ours(3*i+3)))
			}
			from := 3 * right
			x := w.with(t, 5, append(ops, post(bob, lie(from+2)), post(ann, lie(from+4)), post(cyd, lie(80)))...)
			x.wantWatch(t, fmt.Sprint("behind ", right), wes, 5, challenge(wes, right+1, w.side.shown(from, from+2)))
			x = w.with(t, 5, append(ops, post(bob, lie(from+50)), post(ann, lie(from+53)))...)
			x.wantWatch(t, fmt.Sprint("a long one behind ", right), wes, 5, fight(wes, right+1))
			x.do(t, 5, fight(wes, right+2)).wantWatch(t, "a duel over the one behind it", wes, 5, fight(wes, right+1))
			x.wantWatch(t, "a duel over the one behind it, which is over", wes, 106, fight(wes, right+1), expire(wes, right+2, wes))
			x.do(t, 5, fight(wes, right+1)).wantWatch(t, "duels over both", wes, 105)
			x.wantWatch(t, "duels over both, which are over", wes, 106, expire(wes, right+1, wes), expire(wes, right+2, wes))
		}
	}
}
