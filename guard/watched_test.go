package guard

import (
	"fmt"
	"slices"
	"testing"

	"causeway/api"
	"causeway/chain"
	"causeway/contract"
	"causeway/node"
)

// match is one lie, or one right assertion, over which people fight.
type match struct {
	*drawer
	world
	number int
}

// newMatch posts, behind so many right assertions of ann's, one of a liar's or of ann's own.
func newMatch(t testing.TB, seed int, right bool, people ...api.Address) *match {
	r := &match{drawer: newDrawer(seed, people...)}
	entries := 10 + r.Intn(140)
	r.world = world{c: sure(contract.New(r.config())), n: node.New(zed), side: newSide(zed)}
	r.do(t, 1, list(0), list(1)).do(t, 1, lines(entries)...).follow(t)
	r.truth = r.side
	ahead, count := r.Intn(4), 0
	for range ahead {
		count += 1 + r.Intn(3)
		r.do(t, 1, post(ann, r.ours(count)))
	}
	count += 1 + r.Intn(entries-count)
	if right {
		r.do(t, 1, post(ann, r.ours(count)))
	} else {
		lies := r.side.lies(count)
		r.do(t, 1, post(bob, lies[r.Intn(len(lies))]))
	}
	r.number = ahead + 1
	return r
}

// pending is the assertion, if it is still there.
func (r *match) pending() (api.Pending, bool) {
	for _, p := range r.c.Pending() {
		if p.Number == r.number {
			return p, true
		}
	}
	return api.Pending{}, false
}

// mine is the watcher's duel over it.
func (r *match) mine() (api.Duel, bool) {
	for _, d := range r.c.Duels() {
		if d.Number == r.number && d.Challenger == wes {
			return d, true
		}
	}
	return api.Duel{}, false
}

// busy lets people do something, at a time.
func (r *match) busy(t testing.TB, now int, seen map[string]int) {
	for range r.Intn(4) {
		o := r.op(r.c)
		x := r.c.Do(now, o)
		seen[fmt.Sprint("op ", o.Kind, " ", x.Code == 0)]++
	}
	r.follow(t)
}

// act lets the watcher do what is told, at a time.
func (r *match) act(t testing.TB, now int, seen map[string]int) {
	for i, o := range sure(Watch(r.n, r.c, wes, now, 1+r.Intn(16))) {
		x := r.c.Do(now, o)
		seen[fmt.Sprint("watch ", o.Kind)]++
		if i == 0 && x.Code != 0 {
			t.Errorf("the watcher's %s at %d: %d", textOf(o), now, int(x.Code))
		}
	}
}

// answer lets the liar in the watcher's duel stay silent now and then, or move always, and all other duels, too, so that it goes down to the last entry.
func (r *match) answer(t testing.TB, stubborn int, seen map[string]int) {
	mine, in := r.mine()
	switch {
	case in && mine.State == 1 && stubborn == 0 && r.Intn(4) == 0:
		r.busy(t, max(r.c.Now(), mine.Until+1), seen)
	case stubborn > 0:
		for _, d := range r.c.Duels() {
			if d.State == 1 && r.c.Now() <= d.Until {
				r.do(t, r.c.Now(), split(d.Defender, d.Number, d.Challenger, r.commit((d.Low.Count+d.High.Count)/2)))
			}
		}
	}
}

// A lie is dropped, and never confirmed, if the watcher's stroke is done once ahead of its Deadline, then once in each turn of the watcher's, and once behind each of the liar's that is over: at the last moment, whatever others do in between.
func TestP21_9_Won(t *testing.T) {
	seen := map[string]int{}
	for seed := range steps(250) {
		r := newMatch(t, seed, false, ann, bob, cyd, dan)
		lie, _ := r.pending()
		for range 2000 {
			p, is := r.pending()
			if !is {
				break
			}
			d, in := r.mine()
			must := 1 << 60 // the liar's turn: behind its end, whenever that is
			switch {
			case !in:
				must = p.Deadline - 1
			case d.State != 1:
				must = d.Until
			}
			next := min(must, r.time(r.c))
			r.busy(t, next, seen)
			if again, _ := r.mine(); again != d { // the turn is another one now
				continue
			}
			if next == must || r.Intn(9) == 0 || in && d.State == 1 && next > d.Until {
				r.act(t, max(next, r.c.Now()), seen)
			}
			r.answer(t, seed%3, seen)
		}
		if _, is := r.pending(); is || r.c.Confirmed().Count >= lie.Commit.Count && r.c.Confirmed() == lie.Commit {
			t.Fatalf("seed %d: the lie is pending, or confirmed: %+v", seed, r.c.Duels())
		}
		if t.Failed() {
			t.Fatalf("seed %d", seed)
		}
	}
	for _, x := range []string{"watch 7", "watch 8", "watch 10", "watch 11", "watch 12", "op 9 true", "op 6 true", "op 6 false", "op 8 true", "op 12 true"} {
		if seen[x] < 5 && !testing.Short() {
			t.Errorf("%s came %d times", x, seen[x])
		}
	}
}

// A right assertion behind right ones stays, whatever witness is shown and however duels are led, if its poster does in each turn of theirs what Defend tells, at the last moment; and each duel over it is lost.
func TestP21_10_W6_NotLost(t *testing.T) {
	seen := map[string]int{}
	for seed := range steps(120) {
		r := newMatch(t, 5000+seed, true, bob, cyd, dan, wes)
		said, _ := r.pending()
		for i := 0; i < 2000 && r.c.Confirmed().Count < said.Commit.Count; i++ {
			must := 1 << 60
			for _, d := range r.c.Duels() {
				if d.Defender == ann && d.State == 1 {
					must = min(must, d.Until)
				}
			}
			next := min(must, r.time(r.c))
			for range r.Intn(4) {
				r.attack(t, next, seen)
			}
			if next == must || r.Intn(6) == 0 {
				r.defendAll(t, max(next, r.c.Now()), seen)
			}
			if _, is := r.pending(); !is && r.c.Confirmed().Count < said.Commit.Count {
				t.Fatalf("seed %d: a right assertion has fallen", seed)
			}
			if r.Intn(3) == 0 {
				r.defendAll(t, r.c.Now(), seen)
				r.c.Do(max(r.c.Now(), min(next, must)), confirm(ann))
			}
		}
		if c := r.c.Confirmed(); c.Count < said.Commit.Count || !r.side.right(r.c, c) {
			t.Fatalf("seed %d: what is confirmed is %v", seed, c)
		}
		if t.Failed() {
			t.Fatalf("seed %d", seed)
		}
	}
	for _, x := range []string{"defend 9", "defend 12", "op 8 true", "op 10 true", "op 11 false", "op 7 false", "op 12 true"} {
		if seen[x] < 5 && !testing.Short() {
			t.Errorf("%s came %d times", x, seen[x])
		}
	}
}

// attack lets somebody fight the pending ones of ann's, all of which are right.
func (r *match) attack(t testing.TB, now int, seen map[string]int) {
	var o api.Op
	switch k := r.Intn(10); {
	case k < 2:
		o = fight(r.person(), r.number)
	case k < 3:
		o = r.challenge(r.c)
	case k < 4:
		o = fight(r.person(), 1+r.Intn(r.number))
	case k < 5:
		o = r.entry()
	default:
		o = r.move(r.c)
	}
	x := r.c.Do(now, o)
	seen[fmt.Sprint("op ", o.Kind, " ", x.Code == 0)]++
	if x.Code == 0 && (o.Kind == 7 || o.Kind == 11) {
		t.Errorf("%s at %d is done, against a right assertion", textOf(o), now)
	}
	r.follow(t)
}

// defendAll lets ann do what Defend tells, as often as it tells something.
func (r *match) defendAll(t testing.TB, now int, seen map[string]int) {
	for range 9 {
		l := sure(Defend(r.n, r.c, ann, now))
		if len(l) == 0 {
			return
		}
		for _, o := range l {
			seen[fmt.Sprint("defend ", o.Kind)]++
			if x := r.c.Do(now, o); x.Code != 0 {
				t.Errorf("ann's %s at %d: %d", textOf(o), now, int(x.Code))
			}
		}
	}
	t.Errorf("Defend does not come to an end")
}

// Against very many duels at once Defend tells MaxOps at a stroke; in time all of them are answered, and lost.
func TestP21_10_Many(t *testing.T) {
	w := newWorld(t, 80)
	r := &match{drawer: newDrawer(1, bob, cyd), world: *w.with(t, 100, append([]api.Op{post(ann, w.ours(70))}, crowd(1, 600)...)...), number: 1}
	r.truth = r.side
	now := 100
	for len(r.c.Duels()) > 0 {
		r.defendAll(t, now, map[string]int{})
		for _, d := range r.c.Duels() {
			if d.State == 1 {
				t.Fatalf("a duel is not answered: %+v", d)
			}
			if r.Intn(2) > 0 && d.State == 2 {
				r.do(t, now, pick(d.Challenger, 1, r.Intn(2)))
			}
			if d.State == 3 {
				if x := r.c.Do(now, prove(d.Challenger, 1, r.side.shown(d.Low.Count, d.Low.Count+1))); x.Code == 0 {
					t.Fatalf("a right assertion is lost: %+v", d)
				}
			}
		}
		r.defendAll(t, now, map[string]int{})
		now += 60
	}
	if len(r.c.Pending()) != 1 {
		t.Error("the assertion has fallen")
	}
	r.do(t, max(now, 1100), confirm(dan))
}

// shore is a chain that is watched: behind each block and each cut the watcher does, at the head's time, what is told.
type shore struct {
	*drawer
	chain *chain.Chain
	n     *node.Node
	lose  int // so many blocks can be lost
}

func newShore(t testing.TB, seed int) *shore {
	r := &shore{drawer: newDrawer(seed, ann, bob, cyd, dan), n: node.New(zed)}
	r.chain = sure(chain.New(r.config()))
	r.block(t, 1, append([]api.Op{list(0), list(1)}, lines(7+r.Intn(60))...)...)
	return r
}

// block adds a block, which all follow.
func (r *shore) block(t testing.TB, now int, ops ...api.Op) []api.Result {
	t.Helper()
	l, e := r.chain.Extend(api.Block{Time: now, Ops: ops})
	if e != 0 {
		t.Fatalf("Extend: %d", int(e))
	}
	r.lose = min(8, r.lose+1)
	r.follow(t)
	return l
}

func (r *shore) follow(t testing.TB) {
	t.Helper()
	b := r.chain.Contract().Inbox()
	if _, e := r.n.Follow(b, 1+r.Intn(16)); e != 0 {
		t.Fatalf("Follow: %d", int(e))
	}
	r.truth.follow(b)
}

// watch lets the watcher do what is told, as often as something is told.
func (r *shore) watch(t testing.TB, seen map[string]int) {
	t.Helper()
	for range 9 {
		ops := sure(Watch(r.n, r.chain.Contract(), wes, r.chain.Time(), 1+r.Intn(16)))
		if len(ops) == 0 {
			return
		}
		for i, x := range r.block(t, r.chain.Time(), ops...) {
			seen[fmt.Sprint("watch ", ops[i].Kind, " ", x.Code == 0)]++
			if i == 0 && x.Code != 0 {
				t.Fatalf("the watcher's %s: %d", textOf(ops[0]), int(x.Code))
			}
		}
	}
	t.Fatal("Watch does not come to an end")
}

// wantW7 wants what is confirmed to be right, and the first lie to stand in a duel with the watcher in which its poster has to move.
func (r *shore) wantW7(t testing.TB, what string) {
	t.Helper()
	c := r.chain.Contract()
	if !r.truth.right(c, c.Confirmed()) {
		t.Fatalf("%s: a lie is confirmed: %v", what, c.Confirmed())
	}
	for _, p := range c.Pending() {
		if r.truth.right(c, p.Commit) {
			continue
		}
		for _, d := range c.Duels() {
			if d.Number == p.Number && d.Challenger == wes && d.State == 1 && r.chain.Time() <= d.Until {
				return
			}
		}
		t.Fatalf("%s: the lie %+v stands as if nobody watched: %+v", what, p, c.Duels())
	}
}

// crowd draws a block of what people do, each of whom looks at what comes of those ahead.
func (r *shore) crowd(t testing.TB, seen map[string]int) {
	c := r.chain.Contract()
	now := max(r.chain.Time(), r.time(c))
	var ops []api.Op
	for range []int{0, 1, 1, 2, 4, 8}[r.Intn(6)] {
		o := r.op(c)
		x := c.Do(now, o)
		seen[fmt.Sprint("op ", o.Kind, " ", x.Code == 0)]++
		r.truth.follow(c.Inbox())
		ops = append(ops, o)
	}
	if r.Intn(12) == 0 {
		for range 40 {
			ops = append(ops, r.entry())
		}
	}
	if r.Intn(3) > 0 { // liars who do not give up
		for _, d := range c.Duels() {
			if d.Challenger == wes && d.State == 1 {
				ops = append(ops, split(d.Defender, d.Number, wes, r.commit((d.Low.Count+d.High.Count)/2)))
			}
		}
	}
	r.block(t, now, ops...)
}

// home lets the watcher, one who asserts, and whoever ends turns and confirms, go on alone: then all is confirmed.
func (r *shore) home(t testing.TB, what string) {
	t.Helper()
	for range 500 {
		c := r.chain.Contract()
		whole := c.Inbox().Len()
		if c.Confirmed().Count == whole {
			if c.Confirmed() != r.truth.commits[whole] {
				t.Fatalf("%s: at last %v is confirmed, not %v", what, c.Confirmed(), r.truth.commits[whole])
			}
			return
		}
		now := r.chain.Time()
		if b, e := Assert(r.n, c); e == 0 {
			r.block(t, now, api.Op{Kind: 5, By: oda, Body: b})
		} else if p := c.Pending(); len(p) > 0 && p[0].Duels == 0 {
			r.block(t, max(now, p[0].Deadline), confirm(oda))
		} else {
			r.block(t, now+1)
		}
		r.watch(t, map[string]int{})
		r.wantW7(t, what)
	}
	t.Fatalf("%s: not all comes to be confirmed", what)
}

// While one watches behind each block and each cut, others post lies and truths, fight, move, stay silent, end turns, confirm, and blocks are lost: no lie is confirmed. Behind that all of the inbox comes to be confirmed.
func TestW7_Watched(t *testing.T) {
	seen := map[string]int{}
	for seed := range steps(40) {
		r := newShore(t, 9000+seed)
		for i := range 80 {
			what := fmt.Sprint("seed ", seed, ", step ", i)
			if r.Intn(7) == 0 {
				n := r.Intn(1 + r.lose)
				if e := r.chain.Cut(n); e != 0 {
					t.Fatalf("%s: Cut(%d): %d", what, n, int(e))
				}
				r.lose -= n
				r.follow(t)
				seen["cut"]++
			} else {
				r.crowd(t, seen)
			}
			r.watch(t, seen)
			r.wantW7(t, what)
			if r.chain.Contract().Inbox().Len() > 250 {
				break
			}
		}
		r.home(t, fmt.Sprint("seed ", seed))
	}
	for _, x := range []string{"cut", "watch 7 true", "watch 8 true", "watch 10 true", "watch 11 true", "watch 12 true", "op 5 true", "op 6 true", "op 8 true", "op 9 true", "op 10 true", "op 12 true"} {
		if seen[x] < 5 && !testing.Short() {
			t.Errorf("%s came %d times", x, seen[x])
		}
	}
}

// Without a watcher lies come to be confirmed: so these scripts are worth something.
func TestW7_Unwatched(t *testing.T) {
	lies := 0
	for seed := range 20 {
		r := newShore(t, 9000+seed)
		for range 80 {
			r.crowd(t, map[string]int{})
			c := r.chain.Contract()
			if !r.truth.right(c, c.Confirmed()) {
				lies++
				break
			}
		}
	}
	if lies == 0 {
		t.Error("no lie came to be confirmed, though nobody watched")
	}
}

// The document's examples 6 to 8: a watcher who is in time, and one who is not; a liar who does not split; one who asserts, and does not defend.
func TestExamplesOfTheWhole(t *testing.T) {
	config := api.Config{Owner: oda, Admin: zed, Window: 100, Turn: 10, Bond: of(5)}
	begun := func(letters int) *world {
		w := &world{c: sure(contract.New(config)), n: node.New(zed), side: newSide(zed)}
		w.do(t, 0, list(0))
		for i := range letters {
			w.do(t, 0, send(dan, byte(i)))
		}
		return w.follow(t)
	}
	w := begun(1)
	w.do(t, 0, post(bob, w.other(1)))
	w.wantWatch(t, "at 99", wes, 99, challenge(wes, 1, w.side.shown(0, 1)))
	if r := w.c.Copy().Do(99, sure(Watch(w.n, w.c, wes, 99, 1))[0]); !slices.Equal(r.Pays, []api.Pay{{Why: 3, To: wes, Amount: of(5), Index: 1}}) {
		t.Errorf("example 6: %+v", r)
	}
	w.wantWatch(t, "at 100", wes, 100)
	w.do(t, 100, confirm(bob))

	w = begun(40)
	w.do(t, 0, post(bob, w.other(40))).do(t, 0, sure(Watch(w.n, w.c, wes, 0, 1))...)
	w.with(t, 5, split(bob, 1, wes, w.ours(20))).wantWatch(t, "example 7", wes, 5, pick(wes, 1, 1))
	w.wantWatch(t, "example 7", wes, 10)
	l := sure(Watch(w.n, w.c, wes, 11, 1))
	if r := w.c.Do(11, l[0]); len(l) != 1 || !slices.Equal(r.Pays, []api.Pay{{Why: 3, To: wes, Amount: of(5), Index: 1}, {Why: 2, To: wes, Amount: of(5), Index: 1}}) {
		t.Errorf("example 7: %+v", r)
	}
	w.wantGone(t, "example 7", 1)

	w = begun(2)
	w.do(t, 0, api.Op{Kind: 5, By: ann, Body: sure(Assert(w.n, w.c))}, fight(dan, 1))
	w.wantDefend(t, "example 8", ann, 10, split(ann, 1, dan, w.ours(1)))
	w.wantDefend(t, "example 8", ann, 11)
	w.do(t, 11, expire(cyd, 1, dan)).wantGone(t, "example 8", 1)
}
