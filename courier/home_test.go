package courier

import (
	"fmt"
	"math/big"
	"math/rand"
	"slices"
	"testing"

	"causeway/api"
	"causeway/chain"
	"causeway/contract"
	"causeway/guard"
	"causeway/node"
)

// wes watches.
var wes = someone(103)

// shore is a chain that is watched: behind each block and each cut the watcher does, at the head's time, what the guard tells.
type shore struct {
	*rand.Rand
	chain *chain.Chain
	n     *node.Node
	truth *side
	lose  int // so many blocks can be lost
	seen  map[string]int
}

func newShore(t testing.TB, seed int, seen map[string]int) *shore {
	r := &shore{Rand: rand.New(rand.NewSource(int64(seed))), n: node.New(zed), truth: newSide(zed), seen: seen}
	config := usual()
	config.Window, config.Turn = []int{4, 30, 200}[r.Intn(3)], []int{2, 8, 40}[r.Intn(3)]
	r.chain = sure(chain.New(config))
	r.block(t, 1, list(0), list(1), token(0), token(1), deposit(ann, 0, bob, of(500), 100), deposit(ann, 1, cyd, of(300), 100))
	return r
}

func (r *shore) contract() *contract.Contract { return r.chain.Contract() }

func (r *shore) person() api.Address { return someone(byte(r.Intn(4))) }

// block adds a block, which the node follows.
func (r *shore) block(t testing.TB, now int, ops ...api.Op) []api.Result {
	t.Helper()
	l, e := r.chain.Extend(api.Block{Time: now, Ops: ops})
	if e != 0 {
		t.Fatalf("Extend: %d", int(e))
	}
	r.lose = min(8, r.lose+1)
	r.follow(t)
	return l
}

func (r *shore) follow(t testing.TB) {
	t.Helper()
	b := r.contract().Inbox()
	if _, e := r.n.Follow(b, 1+r.Intn(16)); e != 0 {
		t.Fatalf("Follow: %d", int(e))
	}
	r.truth.follow(b)
}

// watch lets the watcher do what is told, as often as something is told.
func (r *shore) watch(t testing.TB) {
	t.Helper()
	for range 9 {
		ops := sure(guard.Watch(r.n, r.contract(), wes, r.chain.Time(), 2))
		if len(ops) == 0 {
			return
		}
		r.block(t, r.chain.Time(), ops...)
	}
	t.Fatal("Watch does not come to an end")
}

// world is how it stands, with what was paid in the blocks that are left; no index twice.
func (r *shore) world(t testing.TB, what string) *world {
	t.Helper()
	w := &world{r.contract(), map[int]api.Pay{}, r.n, r.truth}
	for height := 1; height <= r.chain.Height(); height++ {
		for _, x := range sure(r.chain.Results(height)) {
			for _, p := range x.Pays {
				if p.Why != 1 {
					continue
				}
				if _, is := w.paid[p.Index]; is {
					t.Fatalf("%s: index %d is paid twice", what, p.Index)
				}
				w.paid[p.Index] = p
			}
		}
	}
	return w
}

// wantNothingLost wants, of each token, what is held to be the supply, the open tickets and the leaves that are not paid, together.
func (w *world) wantNothingLost(t testing.TB, what string) {
	t.Helper()
	for token := range 3 {
		all := new(big.Int)
		if x, e := w.n.Token(token); e == 0 {
			all.Add(all, bigOf(x.Supply))
		}
		for number := 1; number <= len(w.side.entries); number++ {
			if x, e := w.n.Ticket(number); e == 0 && x.Token == token {
				all.Add(all, bigOf(x.Amount))
			}
		}
		for i, l := range w.side.leaves {
			if _, is := w.paid[i]; !is && l.Token == token {
				all.Add(all, bigOf(l.Amount))
			}
		}
		if all.Cmp(bigOf(w.c.Held(token))) != 0 {
			t.Errorf("%s: of token %d %v are held, not %v", what, token, bigOf(w.c.Held(token)), all)
		}
	}
}

// entry draws an operation by which an entry comes.
func (r *shore) entry() api.Op {
	who, to, k := r.person(), r.person(), uint64(1+r.Intn(5))
	switch r.Intn(6) {
	case 0:
		return deposit(who, r.Intn(2), to, of(9+k), 98+r.Intn(4))
	case 1:
		return cancel(who, 1+r.Intn(5))
	case 2:
		return burn(cyd, 1, to, k)
	case 3:
		return send(who, byte(r.Intn(256)))
	}
	return burn(bob, 0, to, k)
}

// crowd is a block of what people do: entries come, truths and lies are posted, confirmed and fought over, leaves are claimed.
func (r *shore) crowd(t testing.TB) {
	t.Helper()
	c, ops := r.contract(), []api.Op(nil)
	now := r.chain.Time() + r.Intn(3)
	if l := c.Pending(); len(l) > 0 && r.Intn(4) == 0 {
		now = max(now, l[0].Deadline)
	}
	for range 1 + r.Intn(4) {
		switch k := r.Intn(20); {
		case k < 7:
			ops = append(ops, r.entry())
		case k < 11:
			said := r.truth.commits[min(len(r.truth.commits)-1, c.Top().Count+1+r.Intn(6))]
			if r.Intn(3) == 0 {
				said = []api.Commit{noughts(said), turned(said), leaves(said, said.Leaves+1+r.Intn(2))}[r.Intn(3)]
			}
			ops = append(ops, post(r.person(), said))
		case k < 13:
			ops = append(ops, confirm(r.person()))
		case k < 14 && len(c.Pending()) > 0:
			ops = append(ops, api.Op{Kind: 8, By: r.person(), Number: c.Pending()[0].Number})
		default:
			for range 4 {
				o, e := Claim(r.n, c, r.person(), r.Intn(1+len(r.truth.leaves)))
				r.seen[fmt.Sprint("claim ", int(e))]++
				if e == 0 {
					ops = append(ops, o)
				}
			}
		}
	}
	for i, x := range r.block(t, now, ops...) {
		r.seen[fmt.Sprint("op ", ops[i].Kind, " ", int(x.Code))]++
		// Told ahead of the block: in it another claim may have been first, or another root may have been confirmed.
		if ops[i].Kind == 13 && x.Code != 0 && x.Code != 147 && x.Code != 187 {
			t.Errorf("a claim that was told: %d", int(x.Code))
		}
	}
}

// stand lets the watcher, one who asserts, and whoever ends turns and confirms, go on alone till all is confirmed.
func (r *shore) stand(t testing.TB, what string) {
	t.Helper()
	for range 500 {
		c := r.contract()
		whole := c.Inbox().Len()
		if c.Confirmed() == r.truth.commits[whole] {
			return
		}
		now := r.chain.Time()
		if b, e := guard.Assert(r.n, c); e == 0 {
			r.block(t, now, api.Op{Kind: 5, By: oda, Body: b})
		} else if p := c.Pending(); len(p) > 0 && p[0].Duels == 0 {
			r.block(t, max(now, p[0].Deadline), confirm(oda))
		} else {
			r.block(t, now+1)
		}
		r.watch(t)
	}
	t.Fatalf("%s: not all comes to be confirmed", what)
}

// bring lets all that is due be claimed, in any order, a few in each block; now and then one twice in a block.
func (r *shore) bring(t testing.TB, what string) {
	t.Helper()
	for range 500 {
		l := sure(Due(r.n, r.contract()))
		if len(l) == 0 {
			return
		}
		r.Shuffle(len(l), func(i, j int) { l[i], l[j] = l[j], l[i] })
		var ops []api.Op
		for _, index := range l[:1+r.Intn(len(l))] {
			o, e := Claim(r.n, r.contract(), r.person(), index)
			if e != 0 {
				t.Fatalf("%s: %d is due, and Claim answers %d", what, index, int(e))
			}
			ops = append(ops, o)
		}
		ops = append(ops, ops[0])
		results := r.block(t, r.chain.Time()+r.Intn(2), ops...)
		for i, x := range results {
			wanted := api.Errno(0)
			if i == len(ops)-1 {
				wanted = 147
			}
			if x.Code != wanted {
				t.Fatalf("%s: the claim %s: %d", what, textOf(ops[i]), int(x.Code))
			}
		}
	}
	t.Fatalf("%s: what is due does not come to an end", what)
}

// While one watches behind each block and each cut, others lie, fight, confirm and claim, and blocks are lost. Behind that, when nobody but the watcher, one who asserts, and whoever ends turns, confirms and claims, does anything any more, each leaf comes home: just its amount, to its To, once.
func TestW8_Home(t *testing.T) {
	seen := map[string]int{}
	for seed := range steps(60) {
		r := newShore(t, 4000+seed, seen)
		for i := range 70 {
			what := fmt.Sprint("seed ", seed, ", step ", i)
			if r.Intn(8) == 0 {
				n := r.Intn(1 + r.lose)
				if e := r.chain.Cut(n); e != 0 {
					t.Fatalf("%s: Cut(%d): %d", what, n, int(e))
				}
				r.lose -= n
				r.follow(t)
				seen["cut"]++
			} else {
				r.crowd(t)
			}
			r.watch(t)
			if i%4 == 0 {
				w := r.world(t, what)
				w.wantWords(t, what)
				w.wantNothingLost(t, what)
			}
			if t.Failed() {
				return
			}
		}
		what := fmt.Sprint("seed ", seed, ", at last")
		r.stand(t, what)
		w := r.world(t, what)
		var left []int
		for i := range w.side.leaves {
			if _, is := w.paid[i]; !is {
				left = append(left, i)
			}
		}
		w.wantDue(t, what, left...)
		seen["left"] += len(left)
		r.bring(t, what)
		w = r.world(t, what)
		w.wantHome(t, what, len(w.side.leaves))
		w.wantNothingLost(t, what)
		if t.Failed() {
			return
		}
	}
	for _, x := range []string{"cut", "left", "claim 0", "claim 220", "claim 221", "claim 222", "op 13 0", "op 5 0", "op 6 0", "op 8 0"} {
		if seen[x] < 5 && !testing.Short() {
			t.Errorf("%s came %d times", x, seen[x])
		}
	}
}

// A payment in a block that is lost was never made: the leaf is due again, and comes home by another one.
func TestW8_PaymentIsLost(t *testing.T) {
	r := newShore(t, 1, map[string]int{})
	r.block(t, 2, burn(bob, 0, dan, 30), burn(cyd, 1, ann, 40))
	r.stand(t, "ahead")
	for range 3 {
		l := sure(Due(r.n, r.contract()))
		if !slices.Equal(l, []int{0, 1}) {
			t.Fatalf("%v are due", l)
		}
		r.block(t, r.chain.Time(), sure(Claim(r.n, r.contract(), ann, 1)))
		r.world(t, "paid").wantStages(t, "paid", 3, 4, 0)
		if e := r.chain.Cut(1); e != 0 {
			t.Fatal(e)
		}
		r.follow(t)
		r.world(t, "lost").wantStages(t, "lost", 3, 3, 0)
	}
	r.bring(t, "at last")
	r.world(t, "at last").wantHome(t, "at last", 2)
}

// The document's examples 5 and 2: a burn comes home once its assertion has stood; so does a ticket that is cancelled.
func TestExamplesOfTheWhole(t *testing.T) {
	p, q, x := api.Address{1}, api.Address{2}, api.Address{3}
	w := newWorld(t)
	w.do(t, 0, list(0), token(0), deposit(p, 0, q, of(70), 100), burn(q, 0, dan, 30)).follow(t)
	w.do(t, 0, api.Op{Kind: 5, By: p, Body: sure(guard.Assert(w.n, w.c))})
	w.wantRefused(t, "at 0", 221, 0)
	if r := w.try(99, confirm(p)); r.Code != 165 {
		t.Errorf("at 99: %+v", r)
	}
	w.do(t, 100, confirm(p))
	o := sure(Claim(w.n, w.c, x, 0))
	if r := w.wantClaim(t, "at 100", x, 100, 0); r.Pays[0] != (api.Pay{Why: 1, To: dan, Amount: of(30)}) {
		t.Errorf("at 100: %+v", r)
	}
	w.wantRefused(t, "once more", 222, 0)
	if r := w.try(100, o); r.Code != 147 {
		t.Errorf("the operation itself: %+v", r)
	}

	w = newWorld(t)
	w.do(t, 0, list(0), deposit(p, 0, q, of(50), 100), token(0), cancel(q, 1)).follow(t)
	w.wantStages(t, "q's cancel", 0)
	w.do(t, 0, cancel(p, 1)).follow(t)
	w.wantStages(t, "p's cancel", 1, 0)
	if w.c.Held(0) != of(50) {
		t.Error("50 are held till they are paid")
	}
	w.stand(t, w.last()).wantClaim(t, "the ticket", x, 100, 0)
	if p0 := w.paid[0]; p0.To != p || p0.Amount != of(50) || w.c.Held(0) != of(0) {
		t.Errorf("the ticket: %+v", p0)
	}
}
