package duel

import (
	"fmt"
	"math"
	"testing"

	"causeway/api"
)

const (
	full = 1 << 40
	late = 1 << 62
)

// C challenges, D defends, X has nothing to do with it.
var (
	personC = someone(1)
	personD = someone(2)
	personX = someone(3)
)

func at(count int) api.Commit { return api.Commit{Count: count} }

func split(by api.Address, middle api.Commit, now int) call {
	return call{name: "Split", by: by, middle: middle, now: now}
}

func pick(by api.Address, upper bool, now int) call {
	return call{name: "Pick", by: by, upper: upper, now: now}
}

func prove(by api.Address, w api.Witness, now int, entries ...api.Entry) call {
	return call{name: "Prove", by: by, witness: w, now: now, entries: entries}
}

func expire(now int) call { return call{name: "Expire", now: now} }

// both is a duel, and what it is by the words.
type both struct {
	duel *Duel
	said *said
}

func newBoth(t testing.TB, o opening) both {
	t.Helper()
	d, e := o.open()
	s, wanted := sayOpen(o)
	if e != 0 || wanted != 0 {
		t.Fatalf("%v: %d, by the words %d", o, int(e), int(wanted))
	}
	return both{d, s}
}

func (b both) copied() both { return both{b.duel.Copy(), b.said.copied()} }

// wantTold holds how the duel stands, and what it does not tell, against the words.
func (b both) wantTold(t testing.TB, what string) {
	t.Helper()
	if text := b.said.differ(b.duel); text != "" {
		t.Errorf("%s: %s", what, text)
	}
}

// do makes a call in both: they must answer the same, and stand the same behind it.
func (b both) do(t testing.TB, what string, c call) api.Errno {
	t.Helper()
	was := b.duel.View()
	got, wanted := c.inDuel(b.duel), b.said.do(c)
	if got != wanted {
		t.Errorf("%s, %v: error %d, not %d", what, c, int(got), int(wanted))
	}
	if now := b.duel.View(); (got != 0) != (now == was) {
		t.Errorf("%s, %v: error %d, and View is %+v, and was %+v", what, c, int(got), now, was)
	}
	b.wantTold(t, fmt.Sprint(what, ", behind ", c))
	return got
}

// want makes a call that must be answered with that error, or with none.
func (b both) want(t testing.TB, what string, c call, wanted int) both {
	t.Helper()
	if got := b.do(t, what, c); int(got) != wanted {
		t.Errorf("%s, %v: error %d, not %d", what, c, int(got), wanted)
	}
	return b
}

// row makes calls that must all be done.
func (b both) row(t testing.TB, calls ...call) both {
	t.Helper()
	for _, c := range calls {
		b.want(t, "ahead", c, 0)
	}
	return b
}

// usual is an opening over the entries 4 to 8 of the world, of which the last one is lied about, with turns of 100 from 1000 on.
func usual() opening {
	w := theWorld()
	return opening{7, w.commits[4], w.lies(9)[0], personC, personD, 100, 1000}
}

// lied says of entry 6 what it does not do.
func lied() api.Commit { return theWorld().lies(7)[0] }

// In all states but the last ones the duel's time and Until are 100 apart.
func inSplit(t testing.TB) both { return newBoth(t, usual()) }
func inPick(t testing.TB) both  { return inSplit(t).row(t, split(personD, theWorld().commits[6], 1010)) }
func inSplitAgain(t testing.TB) both {
	return inPick(t).row(t, pick(personC, true, 1020))
}
func inPickAgain(t testing.TB) both {
	return inSplitAgain(t).row(t, split(personD, lied(), 1030))
}
func inProve(t testing.TB) both { return inPickAgain(t).row(t, pick(personC, false, 1040)) }

// good is a Prove of what was lied about.
func good(t testing.TB, now int) call {
	return prove(personC, theWorld().recorded(t, 6), now, theWorld().entries[6])
}

func proven(t testing.TB) both { return inProve(t).row(t, good(t, 1050)) }

// named is a duel somewhere on its way.
type named struct {
	name string
	both
}

// ended are duels that have ended, in each way there is.
func ended(t testing.TB) []named {
	return []named{
		{"proven", proven(t)},
		{"no Split", inSplit(t).row(t, expire(1101))},
		{"no second Split", inSplitAgain(t).row(t, expire(1500))},
		{"no Pick", inPick(t).row(t, expire(1111))},
		{"no second Pick", inPickAgain(t).row(t, expire(late))},
		{"no Prove", inProve(t).row(t, expire(1141))},
	}
}

// open are duels that have not ended.
func open(t testing.TB) []named {
	return []named{{"Split", inSplit(t)}, {"Pick", inPick(t)}, {"Split again", inSplitAgain(t)}, {"Pick again", inPickAgain(t)}, {"Prove", inProve(t)}}
}

func TestErrors_Numbers(t *testing.T) {
	for _, x := range []struct {
		got    api.Errno
		wanted int
	}{
		{api.OK, 0}, {api.ErrArg, 1}, {api.ErrDuelSpan, 170}, {api.ErrDuelTurn, 171}, {api.ErrDuelWho, 172}, {api.ErrDuelLate, 173}, {api.ErrDuelEarly, 174},
		{api.ErrDuelSplit, 175}, {api.ErrDuelHolds, 176}, {api.ErrDuelTime, 177},
	} {
		if int(x.got) != x.wanted {
			t.Errorf("%d, not %d", int(x.got), x.wanted)
		}
	}
}

func TestStates_Numbers(t *testing.T) {
	if api.DuelSplit != 1 || api.DuelPick != 2 || api.DuelProve != 3 || api.DuelWon != 4 || api.DuelLost != 5 {
		t.Error("the states' numbers are others")
	}
	for _, x := range []struct {
		b      both
		wanted int
	}{
		{inSplit(t), 1}, {inPick(t), 2}, {inSplitAgain(t), 1}, {inPickAgain(t), 2}, {inProve(t), 3}, {proven(t), 4}, {inSplit(t).row(t, expire(2000)), 4}, {inPick(t).row(t, expire(2000)), 5}, {inProve(t).row(t, expire(2000)), 5},
	} {
		if got := x.b.duel.View().State; got != x.wanted {
			t.Errorf("the state is %d, not %d", got, x.wanted)
		}
	}
}

func TestLimits(t *testing.T) {
	if api.MaxCount != 1099511627776 || api.MaxTime != 4611686018427387904 || api.MaxSpan != 1024 {
		t.Error("the limits are others")
	}
}

func TestExamples(t *testing.T) {
	low, high := api.Commit{Count: 4}, api.Commit{Count: 9, Leaves: 1}
	wantOpen(t, opening{1, at(8), high, personC, personD, 100, 1000}, 170)
	wantOpen(t, opening{1, low, high, personC, personC, 100, 1000}, 172)
	wantOpen(t, opening{1, low, high, personC, personD, 0, 1000}, 1)
	b := newBoth(t, opening{1, low, high, personC, personD, 100, 1000})
	whole := api.Duel{Number: 1, Challenger: personC, Defender: personD, Low: low, High: high}
	then := func(state, low, middle, high, rounds, until int) api.Duel {
		v := whole
		v.State, v.Low.Count, v.Middle.Count, v.High.Count, v.Rounds, v.Until = state, low, middle, high, rounds, until
		if high != 9 {
			v.High.Leaves = 0
		}
		return v
	}
	first := then(1, 4, 0, 9, 0, 1100)
	if got := b.duel.View(); got != first {
		t.Errorf("behind Open: %+v", got)
	}
	for i, x := range []struct {
		c      call
		wanted int
		then   api.Duel
	}{
		{split(personD, at(5), 1050), 175, first},
		{split(personC, at(6), 1050), 172, first},
		{split(personD, at(6), 1101), 173, first},
		{split(personD, at(6), 999), 177, first},
		{pick(personC, true, 1050), 171, first},
		{split(personD, at(6), 1100), 0, then(2, 4, 6, 9, 0, 1200)},
		{pick(personC, true, 1150), 0, then(1, 6, 0, 9, 1, 1250)},
		{split(personD, at(7), 1150), 0, then(2, 6, 7, 9, 1, 1250)},
		{pick(personC, false, 1150), 0, then(3, 6, 0, 7, 2, 1250)},
		{expire(1250), 174, then(3, 6, 0, 7, 2, 1250)},
		{expire(1251), 0, then(5, 6, 0, 7, 2, 0)},
		{expire(1252), 171, then(5, 6, 0, 7, 2, 0)},
	} {
		b.want(t, fmt.Sprint("row ", i), x.c, x.wanted)
		if got := b.duel.View(); got != x.then {
			t.Errorf("row %d, %v: %+v, not %+v", i, x.c, got, x.then)
		}
	}
}

// wantOpen opens a duel, by the words too, and holds what came of it against what is to come.
func wantOpen(t testing.TB, o opening, wanted int) {
	t.Helper()
	d, e := o.open()
	s, also := sayOpen(o)
	if int(e) != wanted || e != also || (d == nil) != (wanted != 0) {
		t.Errorf("%v: %v, error %d, not %d (by the words %d)", o, d, int(e), wanted, int(also))
		return
	}
	if d != nil {
		both{d, s}.wantTold(t, o.String())
	}
}

func TestP17_1_Open(t *testing.T) {
	o := usual()
	d, e := o.open()
	wanted := api.Duel{Number: 7, Challenger: personC, Defender: personD, State: 1, Low: o.low, High: o.high, Until: 1100}
	if got := d.View(); got != wanted || e != 0 {
		t.Errorf("%v: %+v, %d, not %+v", o, got, int(e), wanted)
	}
	wantOpen(t, o, 0)
	wantOpen(t, opening{low: at(0), high: at(2), number: 1, turn: 1, challenger: personC}, 0)
}

// Each edge, alone.
func TestP17_1_Edges(t *testing.T) {
	with := func(turn func(o *opening)) opening {
		o := usual()
		turn(&o)
		return o
	}
	for n, wanted := range map[int]int{math.MinInt: 1, -1: 1, 0: 1, 1: 0, 2: 0, full - 1: 0, full: 0, full + 1: 1, math.MaxInt: 1} {
		wantOpen(t, with(func(o *opening) { o.number = n }), wanted)
		wantOpen(t, with(func(o *opening) { o.turn = n }), wanted)
	}
	for n, wanted := range map[int]int{math.MinInt: 177, -1: 177, 0: 0, 1: 0, late - 1: 0, late: 0, late + 1: 177, math.MaxInt: 177} {
		wantOpen(t, with(func(o *opening) { o.now = n }), wanted)
	}
	for _, x := range []struct{ low, high, wanted int }{
		{4, 4, 170}, {4, 5, 170}, {4, 6, 0}, {4, 7, 0}, {4, 1027, 0}, {4, 1028, 0}, {4, 1029, 170}, {9, 4, 170}, {6, 4, 170},
		{0, 1, 170}, {0, 2, 0}, {0, 1024, 0}, {0, 1025, 170}, {-1, 0, 170}, {-1, 1, 170}, {-1, 2, 170}, {-2, -1, 170}, {-9, -4, 170}, {4, -1, 170},
		{full - 1, full, 170}, {full - 2, full, 0}, {full - 1024, full, 0}, {full - 1025, full, 170}, {full - 2, full + 1, 170}, {full - 1, full + 1, 170}, {full, full + 2, 170}, {full + 1, full + 9, 170}, {full + 1, full, 170},
		{math.MinInt, math.MaxInt, 170}, {math.MinInt, 0, 170}, {math.MinInt, 4, 170}, {math.MinInt, math.MinInt + 2, 170}, {4, math.MaxInt, 170}, {math.MaxInt - 2, math.MaxInt, 170},
		{math.MaxInt, math.MinInt + 1, 170}, {math.MaxInt, math.MinInt + 9, 170}, {4, math.MinInt, 170}, {math.MaxInt, 4, 170}, {4, 4 + 1<<32 + 2, 170},
	} {
		wantOpen(t, with(func(o *opening) { o.low.Count, o.high.Count = x.low, x.high }), x.wanted)
	}
	wantOpen(t, with(func(o *opening) { o.challenger = o.defender }), 172)
	wantOpen(t, with(func(o *opening) { o.challenger, o.defender = api.Address{}, api.Address{} }), 172)
	wantOpen(t, with(func(o *opening) { o.challenger, o.defender = api.Address{19: 1}, api.Address{} }), 0)
	wantOpen(t, with(func(o *opening) { o.challenger, o.defender = api.Address{1}, api.Address{} }), 0)
}

// Several faults at once: the first one of the chapter's order tells.
func TestP17_1_Order(t *testing.T) {
	faults := []struct {
		wanted int
		turn   func(o *opening)
	}{
		{1, func(o *opening) { o.number = 0 }},
		{1, func(o *opening) { o.turn = full + 1 }},
		{170, func(o *opening) { o.low.Count = -1 }},
		{170, func(o *opening) { o.high.Count = full + 1 }},
		{170, func(o *opening) { o.high.Count = o.low.Count + 1 }},
		{172, func(o *opening) { o.defender = o.challenger }},
		{177, func(o *opening) { o.now = late + 1 }},
	}
	for set := range 1 << len(faults) {
		o, wanted := usual(), 0
		for i, f := range faults {
			if set>>i&1 == 0 {
				continue
			}
			f.turn(&o)
			if wanted == 0 {
				wanted = f.wanted
			}
		}
		wantOpen(t, o, wanted)
	}
}

// What the commits say beside their counts is not looked at: it may be the same, or what no ledger has.
func TestP17_1_OtherParts(t *testing.T) {
	o := usual()
	for _, c := range []api.Commit{{}, {Leaves: -1}, {Leaves: math.MaxInt}, {Leaves: math.MinInt}, {Leaves: full + 1}, {State: api.Digest{1}}, {Outbox: api.Digest{31: 1}}, o.low} {
		for _, d := range []api.Commit{{}, {Leaves: -1}, c, o.high} {
			c.Count, d.Count = 4, 9
			o.low, o.high = c, d
			wantOpen(t, o, 0)
			b := newBoth(t, o)
			if v := b.duel.View(); v.Low != c || v.High != d {
				t.Errorf("View is %+v", v)
			}
		}
	}
}

// A turn ends at MaxTime at the latest.
func TestP17_1_Until(t *testing.T) {
	for _, x := range []struct{ turn, now, wanted int }{
		{1, 0, 1}, {full, 0, full}, {100, 1000, 1100}, {1, late - 2, late - 1}, {1, late - 1, late}, {1, late, late}, {2, late - 1, late}, {full, late - full - 1, late - 1}, {full, late - full, late}, {full, late - full + 1, late}, {full, late, late},
	} {
		o := usual()
		o.turn, o.now = x.turn, x.now
		b := newBoth(t, o)
		for i, c := range []call{split(personD, at(6), x.now), pick(personC, false, x.now), split(personD, at(5), x.now), pick(personC, true, x.now)} {
			if got := b.duel.View().Until; got != x.wanted {
				t.Errorf("turn %d from %d, behind %d moves: Until is %d, not %d", x.turn, x.now, i, got, x.wanted)
			}
			b.want(t, "on", c, 0)
		}
		if got := b.duel.View(); got.Until != x.wanted || got.State != 3 {
			t.Errorf("turn %d from %d: %+v", x.turn, x.now, got)
		}
	}
	o := usual()
	o.now = late - 50
	b := newBoth(t, o)
	b.want(t, "the last moment", expire(late), 174)
	b.want(t, "behind the last moment", expire(late+1), 177)
	b.want(t, "the last moment", split(personD, at(6), late), 0)
	b.want(t, "no moment is left", expire(late), 174)
}

// Times at which something could turn, of a duel that stands so.
func (b both) times() []int {
	last, until := b.said.time(), b.said.view().Until
	return []int{math.MinInt, -1, 0, last - 1, last, last + 1, until - 1, until, until + 1, late - 1, late, late + 1, math.MaxInt}
}

// Each move in each state, by everybody, at every time, with and without what is its own fault.
func TestMoves_EveryState(t *testing.T) {
	w := theWorld()
	seen := map[string]int{}
	for _, x := range append(open(t), ended(t)...) {
		middle := w.commits[half(x.duel.View())]
		wrong := middle
		wrong.Count++
		for _, now := range x.times() {
			for _, by := range []api.Address{personC, personD, personX, {}} {
				for _, c := range []call{
					split(by, middle, now), split(by, wrong, now), pick(by, true, now), pick(by, false, now), expire(now),
					prove(by, w.recorded(t, 6), now, w.entries[6]), prove(by, api.Witness{}, now, w.entries[6]), prove(by, w.recorded(t, 6), now), prove(by, w.recorded(t, 6), now, w.entries[6:8]...),
				} {
					e := x.copied().do(t, "in "+x.name, c)
					seen[fmt.Sprint(x.duel.View().State, " ", c.name, " ", int(e))]++
				}
			}
		}
		x.wantTold(t, "in "+x.name)
	}
	for _, wanted := range []string{
		"1 Split 0", "1 Split 172", "1 Split 173", "1 Split 175", "1 Split 177", "1 Pick 171", "1 Pick 177", "1 Prove 171", "1 Prove 177", "1 Expire 0", "1 Expire 174", "1 Expire 177",
		"2 Split 171", "2 Split 177", "2 Pick 0", "2 Pick 172", "2 Pick 173", "2 Pick 177", "2 Prove 171", "2 Prove 177", "2 Expire 0", "2 Expire 174", "2 Expire 177",
		"3 Split 171", "3 Split 177", "3 Pick 171", "3 Pick 177", "3 Prove 0", "3 Prove 1", "3 Prove 132", "3 Prove 172", "3 Prove 173", "3 Prove 177", "3 Expire 0", "3 Expire 174", "3 Expire 177",
		"4 Split 171", "4 Split 177", "4 Pick 171", "4 Pick 177", "4 Prove 171", "4 Prove 177", "4 Expire 171", "4 Expire 177",
		"5 Split 171", "5 Split 177", "5 Pick 171", "5 Pick 177", "5 Prove 171", "5 Prove 177", "5 Expire 171", "5 Expire 177",
	} {
		if seen[wanted] == 0 {
			t.Errorf("%s did not come", wanted)
		}
		delete(seen, wanted)
	}
	for other, n := range seen {
		t.Errorf("%s came %d times", other, n)
	}
}

// Several faults at once: the first one of the order tells.
func TestMoves_Order(t *testing.T) {
	w := theWorld()
	split6, pick6, prove6 := inSplit(t), inPick(t), inProve(t)
	for _, x := range []struct {
		name   string
		b      both
		c      call
		wanted int
	}{
		{"all good", split6, split(personD, w.commits[6], 1000), 0},
		{"its own", split6, split(personD, w.commits[7], 1000), 175},
		{"late, its own", split6, split(personD, w.commits[7], 1101), 173},
		{"who, late, its own", split6, split(personX, w.commits[7], 1101), 172},
		{"state, who, late", split6, pick(personX, true, 1101), 171},
		{"state, who", split6, pick(personX, true, 1050), 171},
		{"state, late", split6, pick(personC, true, 1101), 171},
		{"state, its own", split6, prove(personC, api.Witness{}, 1050), 171},
		{"time, state, who, its own", split6, prove(personX, api.Witness{}, 999), 177},
		{"time, who, its own", split6, split(personX, w.commits[7], 999), 177},
		{"time, late, who, its own", split6, split(personX, w.commits[7], late+1), 177},
		{"time, its own", split6, split(personD, w.commits[7], -1), 177},
		{"below the duel's time", pick6, pick(personC, true, 1009), 177},
		{"below it, state", pick6, split(personX, w.commits[7], 1009), 177},
		{"who, late", pick6, pick(personD, true, 1111), 172},
		{"late", pick6, pick(personC, true, 1111), 173},
		{"the last moment", pick6, pick(personC, true, 1110), 0},
		{"its own: no entry", prove6, prove(personC, api.Witness{}, 1140), 1},
		{"its own: no entry, a good witness", prove6, prove(personC, w.recorded(t, 6), 1140), 1},
		{"late, no entry", prove6, prove(personC, api.Witness{}, 1141), 173},
		{"who, late, no entry", prove6, prove(personD, api.Witness{}, 1141), 172},
		{"time, who, late, no entry", prove6, prove(personD, api.Witness{}, late+1), 177},
		{"two entries, a wrong witness", prove6, prove(personC, api.Witness{}, 1140, w.entries[6:8]...), 1},
		{"33 entries", prove6, prove(personC, api.Witness{}, 1140, w.entries[6:39]...), 1},
		{"Expire: time, early", prove6, expire(1039), 177},
		{"Expire: early", prove6, expire(1140), 174},
		{"Expire: ended, early", proven(t), expire(1050), 171},
		{"Expire: time, ended", proven(t), expire(1049), 177},
		{"Expire: ended, late", proven(t), expire(late), 171},
		{"Expire: time, ended", proven(t), expire(late + 1), 177},
	} {
		x.b.copied().want(t, x.name, x.c, x.wanted)
	}
}

func TestP17_2_Split(t *testing.T) {
	w := theWorld()
	for span := 2; span <= 24; span++ {
		for _, low := range []int{0, 1, 4, 7, full - span} {
			for i := -3; i <= span+3; i++ {
				b := newBoth(t, opening{1, at(low), at(low + span), personC, personD, 100, 1000})
				wanted := 175
				if i == span/2 {
					wanted = 0
				}
				middle := api.Commit{Count: low + i, State: api.Digest{byte(i)}, Outbox: api.Digest{31: 9}, Leaves: i}
				b.want(t, fmt.Sprint("span ", span), split(personD, middle, 1030), wanted)
				if v := b.duel.View(); wanted == 0 && v != (api.Duel{Number: 1, Challenger: personC, Defender: personD, State: 2, Low: at(low), Middle: middle, High: at(low + span), Until: 1130}) {
					t.Errorf("span %d from %d: %+v", span, low, v)
				}
			}
		}
	}
	for _, count := range []int{math.MinInt, math.MinInt + 6, -6, -1, 0, 6 + 1<<32, full, math.MaxInt} {
		inSplit(t).want(t, "far away", split(personD, at(count), 1000), 175)
	}
	for _, c := range append(w.lies(6), api.Commit{Count: 6, Leaves: -5}, api.Commit{Count: 6, Leaves: math.MaxInt}) { // what it says beside its count is not looked at
		b := inSplit(t).want(t, "a lie", split(personD, c, 1000), 0)
		if v := b.duel.View(); v.Middle != c {
			t.Errorf("Middle is %+v, not %+v", v.Middle, c)
		}
	}
}

// Twice the same, and one behind the other: a Split is done once.
func TestP17_2_Once(t *testing.T) {
	w := theWorld()
	b := inPick(t).want(t, "again", split(personD, w.commits[6], 1010), 171)
	b.want(t, "another one", split(personD, w.lies(6)[0], 1010), 171)
	if v := b.duel.View(); v.Middle != w.commits[6] || v.Until != 1110 {
		t.Errorf("View is %+v", v)
	}
}

// Each half, from every span down to 1.
func TestP17_3_Pick(t *testing.T) {
	for span := 2; span <= 1024; span++ {
		for way := range 4 {
			o := opening{3, at(11), at(11 + span), personC, personD, 100, 0}
			d, _ := o.open()
			low, high, rounds := o.low, o.high, 0
			for now := 0; high.Count-low.Count > 1; now += 10 {
				middle := api.Commit{Count: low.Count + (high.Count-low.Count)/2, Leaves: rounds + 1, State: api.Digest{byte(now)}}
				upper := [4]bool{true, false, rounds%2 == 0, high.Count-middle.Count > middle.Count-low.Count}[way]
				e, f := d.Split(personD, middle, now), d.Pick(personC, upper, now+7)
				if upper {
					low = middle
				} else {
					high = middle
				}
				rounds++
				wanted := api.Duel{Number: 3, Challenger: personC, Defender: personD, State: 1, Low: low, High: high, Until: now + 107, Rounds: rounds}
				if high.Count-low.Count == 1 {
					wanted.State = 3
				}
				if got := d.View(); e != 0 || f != 0 || got != wanted {
					t.Fatalf("span %d, way %d: %d, %d, %+v, not %+v", span, way, int(e), int(f), got, wanted)
				}
			}
			if e := d.Split(personD, at(low.Count), 9999); e != api.ErrDuelTurn {
				t.Fatalf("span %d: Split of one entry: %d", span, int(e))
			}
		}
	}
}

func TestP17_3_Halves(t *testing.T) {
	w := theWorld()
	b := inPick(t)
	up, down := b.copied().want(t, "upper", pick(personC, true, 1015), 0), b.copied().want(t, "lower", pick(personC, false, 1015), 0)
	for _, x := range []struct {
		got, wanted api.Duel
	}{
		{up.duel.View(), api.Duel{Number: 7, Challenger: personC, Defender: personD, State: 1, Low: w.commits[6], High: usual().high, Until: 1115, Rounds: 1}},
		{down.duel.View(), api.Duel{Number: 7, Challenger: personC, Defender: personD, State: 1, Low: w.commits[4], High: w.commits[6], Until: 1115, Rounds: 1}},
	} {
		if x.got != x.wanted {
			t.Errorf("%+v, not %+v", x.got, x.wanted)
		}
	}
	up.want(t, "again", pick(personC, true, 1015), 171)
	down.want(t, "again", pick(personC, false, 1015), 171)
	down.row(t, split(personD, lies5(), 1016), pick(personC, true, 1017))
	if v := down.duel.View(); v.State != 3 || v.Low != lies5() || v.High != w.commits[6] || v.Rounds != 2 || v.Middle != (api.Commit{}) {
		t.Errorf("down to one: %+v", v)
	}
}

func lies5() api.Commit { return theWorld().lies(5)[1] }

// proving is a duel in which the challenger is to show what entry n does, which High says is that commit.
func proving(t testing.TB, n int, high api.Commit) both {
	t.Helper()
	w := theWorld()
	b := newBoth(t, opening{7, w.commits[n], w.commits[n+2], personC, personD, 100, 1000})
	return b.row(t, split(personD, high, 1010), pick(personC, false, 1020))
}

func TestP17_4_Prove(t *testing.T) {
	w := theWorld()
	for n := range 60 {
		for i, lie := range w.lies(n + 1) {
			what := fmt.Sprint("entry ", n, ", lie ", i)
			b := proving(t, n, lie).want(t, what, prove(personC, w.recorded(t, n), 1120, w.entries[n]), 0)
			wanted := api.Duel{Number: 7, Challenger: personC, Defender: personD, State: 4, Low: w.commits[n], High: lie, Rounds: 1}
			if got := b.duel.View(); got != wanted {
				t.Errorf("%s: %+v, not %+v", what, got, wanted)
			}
		}
		proving(t, n, w.commits[n+1]).want(t, fmt.Sprint("entry ", n), prove(personC, w.recorded(t, n), 1120, w.entries[n]), 176)
	}
}

// strayEntry is one that stands nowhere in the world.
func strayEntry() api.Entry {
	return api.Entry{Kind: api.EntryDeposit, Sender: personX, Token: 60, To: personX, Amount: api.Wide{1}, Gas: 100}
}

// Its own errors: each alone, and the first one of them; behind each the challenger may show another one.
func TestP17_4_Refused(t *testing.T) {
	w := theWorld()
	seen, entry := w.recorded(t, 6), w.entries[6]
	short, changed := copyOf(seen), copyOf(seen)
	short.Pairs = short.Pairs[1:]
	changed.Pairs[0], changed.Pairs[1] = changed.Pairs[1], changed.Pairs[0]
	b := inProve(t)
	for _, x := range []struct {
		name    string
		w       api.Witness
		entries []api.Entry
		wanted  int
	}{
		{"no entry", seen, nil, 1},
		{"an empty list", seen, []api.Entry{}, 1},
		{"two entries", seen, w.entries[6:8], 1},
		{"the same twice", seen, []api.Entry{entry, entry}, 1},
		{"32 entries", seen, w.entries[6:38], 1},
		{"no entry, a wrong witness", changed, nil, 1},
		{"two entries, a wrong witness", changed, w.entries[6:8], 1},
		{"pairs that do not rise", changed, []api.Entry{entry}, 131},
		{"no witness", api.Witness{}, []api.Entry{entry}, 132},
		{"a pair too little", short, []api.Entry{entry}, 132},
		{"another one's", w.recorded(t, 5), []api.Entry{entry}, 132},
		{"another entry, which touches more", seen, []api.Entry{strayEntry()}, 133},
		{"no entry that may be", seen, []api.Entry{{Kind: 3}}, 134},
	} {
		b.want(t, x.name, prove(personC, x.w, 1140, x.entries...), x.wanted)
		b.copied().want(t, x.name+", and then a good one", good(t, 1140), 0)
	}
	b.want(t, "a good one at last", good(t, 1140), 0)
	b.want(t, "once more", good(t, 1140), 171)
}

// What the witness shows is High, and then there is nothing to prove, however often it is tried.
func TestP17_4_Holds(t *testing.T) {
	w := theWorld()
	b := proving(t, 6, w.commits[7])
	for now := 1020; now <= 1120; now += 20 {
		b.want(t, "it holds", prove(personC, w.recorded(t, 6), now, w.entries[6]), 176)
		b.want(t, "no witness", prove(personC, api.Witness{}, now, w.entries[6]), 132)
	}
	b.want(t, "late", prove(personC, w.recorded(t, 6), 1121, w.entries[6]), 173)
	b.want(t, "a refused Prove turns no time", prove(personC, w.recorded(t, 6), 1020, w.entries[6]), 176)
	b.want(t, "over", expire(1121), 0)
	if v := b.duel.View(); v.State != 5 {
		t.Errorf("View is %+v", v)
	}
}

// The duel knows no inbox: it goes by the entry that is handed in.
func TestP17_4_AnotherEntry(t *testing.T) {
	w := theWorld()
	other := strayEntry()
	seen, c := recordedOf(t, w.tables[6], other)
	proving(t, 6, c).want(t, "as the other one makes it", prove(personC, seen, 1030, other), 176)
	proving(t, 6, c).want(t, "as it does not make it", prove(personC, w.recorded(t, 6), 1030, w.entries[6]), 0)
	proving(t, 6, w.commits[7]).want(t, "another one", prove(personC, seen, 1030, other), 0)
}

func TestP17_5_Expire(t *testing.T) {
	for _, x := range []struct {
		b      both
		until  int
		wanted int
	}{
		{inSplit(t), 1100, 4}, {inPick(t), 1110, 5}, {inSplitAgain(t), 1120, 4}, {inPickAgain(t), 1130, 5}, {inProve(t), 1140, 5},
	} {
		was := x.b.duel.View()
		for _, now := range []int{x.until - 100, x.until - 99, x.until - 1, x.until} {
			x.b.want(t, "early", expire(now), 174)
		}
		for _, now := range []int{x.until - 101, 0, -1, math.MinInt, late + 1, math.MaxInt} {
			x.b.want(t, "no time", expire(now), 177)
		}
		for _, now := range []int{x.until + 1, x.until + 2, late - 1, late} {
			b := x.b.copied().want(t, "over", expire(now), 0)
			wanted := was
			wanted.State, wanted.Until, wanted.Middle = x.wanted, 0, api.Commit{}
			if got := b.duel.View(); got != wanted {
				t.Errorf("behind Expire(%d): %+v, not %+v", now, got, wanted)
			}
			b.want(t, "the time has turned", expire(now-1), 177)
			b.want(t, "it has ended", expire(now), 171)
		}
	}
}

// All moves behind each end, at all times: by ErrDuelTime below the duel's time, else by ErrDuelTurn.
func TestP17_6_Ended(t *testing.T) {
	w := theWorld()
	for _, x := range ended(t) {
		was, last := x.duel.View(), x.said.time()
		if was.State < 4 || was.Until != 0 || was.Middle != (api.Commit{}) {
			t.Errorf("%s: View is %+v", x.name, was)
		}
		for _, now := range []int{math.MinInt, -1, 0, 1000, last - 1, last, last + 1, last + 100, last + 101, late, late + 1, math.MaxInt} {
			wanted := 171
			if now < last || now > late {
				wanted = 177
			}
			for _, by := range []api.Address{personC, personD, personX} {
				for _, c := range []call{expire(now), split(by, w.commits[half(was)], now), pick(by, true, now), pick(by, false, now), prove(by, w.recorded(t, 6), now, w.entries[6]), prove(by, api.Witness{}, now)} {
					x.want(t, x.name, c, wanted)
				}
			}
		}
		if got := x.duel.View(); got != was {
			t.Errorf("%s: %+v, not %+v", x.name, got, was)
		}
	}
}

// All at the first moment there is: Until is 0 then, and so is now.
func TestP17_6_EndedAtNought(t *testing.T) {
	w := theWorld()
	o := opening{7, w.commits[6], w.commits[8], personC, personD, 1, 0}
	b := newBoth(t, o).row(t, split(personD, lied(), 0), pick(personC, false, 0), good(t, 0))
	for _, c := range []call{expire(0), split(personD, lied(), 0), pick(personC, false, 0), good(t, 0)} {
		b.want(t, "ended at 0", c, 171)
	}
	b.want(t, "below 0", expire(-1), 177)
}

func TestP17_7_View(t *testing.T) {
	w := theWorld()
	base := api.Duel{Number: 7, Challenger: personC, Defender: personD}
	view := func(state int, low, middle, high api.Commit, until, rounds int) api.Duel {
		v := base
		v.State, v.Low, v.Middle, v.High, v.Until, v.Rounds = state, low, middle, high, until, rounds
		return v
	}
	none, high := api.Commit{}, usual().high
	wanted := map[string]api.Duel{
		"Split":           view(1, w.commits[4], none, high, 1100, 0),
		"Pick":            view(2, w.commits[4], w.commits[6], high, 1110, 0),
		"Split again":     view(1, w.commits[6], none, high, 1120, 1),
		"Pick again":      view(2, w.commits[6], lied(), high, 1130, 1),
		"Prove":           view(3, w.commits[6], none, lied(), 1140, 2),
		"proven":          view(4, w.commits[6], none, lied(), 0, 2),
		"no Split":        view(4, w.commits[4], none, high, 0, 0),
		"no second Split": view(4, w.commits[6], none, high, 0, 1),
		"no Pick":         view(5, w.commits[4], none, high, 0, 0),
		"no second Pick":  view(5, w.commits[6], none, high, 0, 1),
		"no Prove":        view(5, w.commits[6], none, lied(), 0, 2),
	}
	for _, x := range append(open(t), ended(t)...) {
		for range 2 {
			if got := x.duel.View(); got != wanted[x.name] {
				t.Errorf("%s: %+v, not %+v", x.name, got, wanted[x.name])
			}
		}
		v := x.duel.View()
		v.Number, v.State, v.Low.Count, v.Until = 99, 99, 99, 99 // a value of the caller's
		x.wantTold(t, x.name)
	}
}

func TestR1_Nil(t *testing.T) {
	var d *Duel
	if d.View() != (api.Duel{}) || d.Copy() != nil {
		t.Error("a nil duel tells something")
	}
	for _, now := range []int{-1, 0, late, late + 1} {
		for _, c := range []call{split(personD, at(6), now), pick(personC, true, now), prove(personC, api.Witness{}, now), expire(now)} {
			if e := c.inDuel(d); e != api.ErrArg {
				t.Errorf("%v of a nil duel: %d", c, int(e))
			}
		}
	}
	var zero Duel // nobody is waited for
	for _, c := range []call{split(api.Address{}, api.Commit{}, 0), pick(api.Address{}, true, 0), prove(api.Address{}, api.Witness{}, 0), expire(1)} {
		if e := c.inDuel(&zero); e != api.ErrDuelTurn {
			t.Errorf("%v of a duel that Open did not give: %d", c, int(e))
		}
	}
}
