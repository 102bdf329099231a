package bridge

import (
	"fmt"
	"math/big"
	"slices"
	"testing"

	"causeway/api"
)

// The ten examples of the whole: o is oda, a zed, w wes; and these are p, q, r, l and x.
var (
	pat = someone(11)
	qui = someone(12)
	roy = someone(13)
	lia = someone(14)
	xia = someone(16)
)

// listed is one that begins with "o lists token 0".
func listed(t testing.TB, ops ...api.Op) *both {
	t.Helper()
	b := newBoth(t, usual()).ahead(t, blockAt(0, list(0)))
	for _, op := range ops {
		b.ahead(t, blockAt(0, op))
	}
	return b.ahead(t, followBy(1))
}

// wantReceipt wants what came of an entry.
func (b *both) wantReceipt(t testing.TB, number int, wanted api.Receipt) {
	t.Helper()
	if got, e := b.bridge.node.Receipt(number); e != 0 || got != wanted {
		t.Errorf("Receipt(%d): %+v, %d, not %+v", number, got, int(e), wanted)
	}
}

// wantAmounts wants what there is of token 0.
func (b *both) wantAmounts(t testing.TB, held, supply uint64) {
	t.Helper()
	if b.bridge.Held(0) != of(held) || b.bridge.Supply(0) != of(supply) {
		t.Errorf("%v are held, the supply is %v, not %d and %d", b.bridge.Held(0), b.bridge.Supply(0), held, supply)
	}
}

func wantPays(t testing.TB, a api.Answer, wanted ...api.Pay) {
	t.Helper()
	if len(a.Results) != 1 || !slices.Equal(a.Results[0].Pays, wanted) {
		t.Errorf("%s: not %+v", textOfAnswer(a), wanted)
	}
}

func TestDoc_1_2_Tickets(t *testing.T) {
	ahead := []api.Op{deposit(pat, 0, qui, of(50), 100), token(0)}
	b := listed(t, append(ahead, retry(xia, 1))...)
	b.wantReceipt(t, 0, api.Receipt{Code: 122, Number: 1})
	b.wantReceipt(t, 2, api.Receipt{})
	b.wantAmounts(t, 50, 50)
	if _, e := b.bridge.node.Ticket(1); e != 90 {
		t.Errorf("the ticket is open: %d", int(e))
	}
	b = listed(t, append(ahead, cancel(pat, 1))...)
	b.wantReceipt(t, 2, api.Receipt{First: 0, Leaves: 1})
	if leaf, e := b.bridge.node.Leaf(0); e != 0 || leaf != (api.Leaf{Entry: 2, To: pat, Amount: of(50)}) {
		t.Errorf("leaf 0: %+v, %d", leaf, int(e))
	}
	b.wantAmounts(t, 50, 0)
	b.ahead(t, assertAt(0, pat), blockAt(100, confirm(pat)))
	wantPays(t, b.want(t, "claim", claimAt(100, xia, 0), 0), api.Pay{Why: 1, To: pat, Amount: of(50)})
	b.wantAmounts(t, 0, 0)
	b = listed(t, append(ahead, cancel(qui, 1))...)
	b.wantReceipt(t, 2, api.Receipt{Code: 91})
	b.wantAmounts(t, 50, 0)
	if _, e := b.bridge.node.Ticket(1); e != 0 {
		t.Errorf("the ticket is not open: %d", int(e))
	}
}

func TestDoc_3_4_Letters(t *testing.T) {
	b := listed(t, token(0), deposit(pat, 0, qui, of(70), 99))
	b.wantReceipt(t, 1, api.Receipt{Code: 122, Number: 1})
	b.wantAmounts(t, 70, 0)
	burning := func(amount uint64) api.Letter {
		return api.Letter{Kind: api.LetterBurn, To: roy, Amount: of(amount)}
	}
	b = listed(t, token(0), deposit(pat, 0, qui, of(70), 100), written(qui, api.Letter{Kind: api.LetterMany, Parts: []api.Letter{burning(30), burning(50)}}))
	b.wantReceipt(t, 2, api.Receipt{Code: 85, Part: 2})
	b.wantAmounts(t, 70, 70)
}

func TestDoc_5_Home(t *testing.T) {
	b := listed(t, token(0), deposit(pat, 0, qui, of(70), 100), burn(qui, 0, roy, 30))
	b.ahead(t, assertAt(0, pat))
	b.want(t, "too early", blockAt(99, confirm(pat)), 165)
	wantPays(t, b.want(t, "confirm", blockAt(100, confirm(pat)), 0), api.Pay{Why: 2, To: pat, Amount: of(5), Index: 1})
	answer := b.want(t, "claim", claimAt(100, xia, 0), 0)
	wantPays(t, answer, api.Pay{Why: 1, To: roy, Amount: of(30)})
	b.refuse(t, "once more", 222, claimAt(100, xia, 0))
	b.want(t, "the operation itself", blockAt(100, answer.Ops[0]), 147)
	b.wantAmounts(t, 40, 40)
}

func TestDoc_6_ALie(t *testing.T) {
	b := listed(t, token(0))
	b.ahead(t, blockAt(0, post(lia, b.lie(t, 1))))
	wantPays(t, b.wantMade(t, "watch", watchAt(99, wes, 1), []api.Op{challenge(wes, 1, b.shown(t, 0, 1))}, 0), api.Pay{Why: 3, To: wes, Amount: of(5), Index: 1})
	b.ahead(t, cutOf(1))
	b.wantMade(t, "too late", watchAt(100, wes, 1), nil)
	b.want(t, "confirm", blockAt(100, confirm(lia)), 0)
}

func TestDoc_7_ADuel(t *testing.T) {
	b := listed(t)
	b.ahead(t, blockAt(0, slices.Repeat([]api.Op{send(pat, 1)}, 40)...), followBy(1))
	b.ahead(t, blockAt(0, post(lia, b.lie(t, 40))))
	b.wantMade(t, "a duel", watchAt(0, wes, 1), []api.Op{fight(wes, 1)}, 0)
	b.want(t, "split", blockAt(0, split(lia, 1, wes, b.right(t, 20))), 0)
	b.wantMade(t, "pick", watchAt(0, wes, 1), []api.Op{pick(wes, 1, 1)}, 0)
	b.ahead(t, cutOf(2))
	wantPays(t, b.wantMade(t, "no split", watchAt(11, wes, 1), []api.Op{expire(wes, 1, wes)}, 0), api.Pay{Why: 3, To: wes, Amount: of(5), Index: 1}, api.Pay{Why: 2, To: wes, Amount: of(5), Index: 1})
	if b.pending() != 0 {
		t.Errorf("%d are pending", b.pending())
	}
}

func TestDoc_8_WhoAssertsMustDefend(t *testing.T) {
	b := listed(t, send(pat, 1), send(pat, 2))
	b.ahead(t, assertAt(0, pat), blockAt(0, fight(xia, 1)))
	b.want(t, "too early", blockAt(10, expire(qui, 1, xia)), 174)
	wantPays(t, b.want(t, "nobody moves", blockAt(11, expire(qui, 1, xia)), 0), api.Pay{Why: 3, To: xia, Amount: of(5), Index: 1}, api.Pay{Why: 2, To: xia, Amount: of(5), Index: 1})
}

func TestDoc_9_ABlockIsLost(t *testing.T) {
	b := listed(t)
	b.ahead(t, blockAt(0, deposit(pat, 0, qui, of(1), 100)))
	one := b.right(t, 1)
	b.ahead(t, blockAt(0, deposit(pat, 0, qui, of(2), 100)), followBy(2), cutOf(1))
	if answer := b.do(t, "follow", followBy(1)); answer.Back != 1 || b.bridge.node.Count() != 1 {
		t.Errorf("%s, %d are left", textOfAnswer(answer), b.bridge.node.Count())
	}
	if c, e := b.bridge.node.Commit(1); e != 0 || c != one {
		t.Errorf("Commit(1): %+v, %d", c, int(e))
	}
}

func TestDoc_10_TooMuch(t *testing.T) {
	b := listed(t, deposit(pat, 0, qui, most(), 100))
	was := b.tell()
	b.want(t, "one more", blockAt(0, deposit(pat, 0, qui, of(1), 100)), 145)
	b.ahead(t, cutOf(1))
	if b.tell() != was || b.bridge.Held(0) != most() {
		t.Error("something has changed")
	}
}

// A watched bridge: behind each block and each cut the node follows, and the watcher does what is told, as often as something is told.

func (r *script) watch(t testing.TB, what string) {
	t.Helper()
	r.tell(t, what, orderBytes(followBy(1+r.Intn(16))))
	for range 9 {
		if a := r.tell(t, what, orderBytes(watchAt(r.said.time(), wes, 1+r.Intn(16)))); len(a.Ops) == 0 {
			return
		}
		r.tell(t, what, orderBytes(followBy(1)))
	}
	t.Fatalf("%s: there is no end of what is told", what)
}

// crowd is what people do in blocks: nothing of it by the watcher's address.
func (r *script) crowd() api.Order {
	o := r.block()
	if o.Time > 1<<50 {
		o.Time = r.said.time()
	}
	o.Ops = slices.DeleteFunc(o.Ops, func(op api.Op) bool { return op.By == wes })
	return o
}

// wantRight wants what is confirmed to be right: W7.
func (r *script) wantRight(t testing.TB, what string) {
	t.Helper()
	if c := r.said.contract.Confirmed(); c != r.right(t, c.Count) {
		t.Fatalf("%s: a lie is confirmed: %+v", what, c)
	}
}

// wantNothingLost wants of each token what is held to be the supply, the open tickets and the leaves that are not paid, together: W5.
func (r *script) wantNothingLost(t testing.TB, what string) {
	t.Helper()
	n, c := r.truth().node, r.said.contract
	for token := range 64 {
		all := bigOf(sure(n.Token(token)).Supply)
		for number := 1; number <= n.Count(); number++ {
			if x, e := n.Ticket(number); e == 0 && x.Token == token {
				all.Add(all, bigOf(x.Amount))
			}
		}
		for i := range n.Leaves() {
			if x := sure(n.Leaf(i)); x.Token == token && !c.Paid(i) {
				all.Add(all, bigOf(x.Amount))
			}
		}
		if got := bigOf(r.bridge.Held(token)); got.Cmp(all) != 0 {
			t.Fatalf("%s: of token %d %v are held, not %v", what, token, got, all)
		}
	}
}

// stand lets the watcher, one who asserts, and who confirms go on alone till all is confirmed.
func (r *script) stand(t testing.TB, what string) {
	t.Helper()
	for range 400 {
		c, now := r.said.contract, r.said.time()
		if c.Confirmed().Count == c.Inbox().Len() {
			return
		}
		if a := r.tell(t, what, orderBytes(assertAt(now, oda))); a.Code != 0 {
			o := blockAt(now + 1)
			if l := c.Pending(); len(l) > 0 && l[0].Duels == 0 {
				o = blockAt(max(now, l[0].Deadline), confirm(oda))
			}
			r.tell(t, what, orderBytes(o))
		}
		r.watch(t, what)
	}
	t.Fatalf("%s: not all comes to be confirmed", what)
}

// bring lets all leaves that are not paid be claimed: W8.
func (r *script) bring(t testing.TB, what string) {
	t.Helper()
	paid := map[int]api.Pay{}
	for index := range r.said.node.Leaves() {
		r.tell(t, what, orderBytes(claimAt(r.said.time(), dan, index)))
		if a := r.tell(t, what, orderBytes(lookAt(index))); a.Stage != 4 {
			t.Fatalf("%s: leaf %d is not paid: %s", what, index, textOfAnswer(a))
		}
	}
	for _, row := range r.rows {
		for _, x := range row.results {
			for _, p := range x.Pays {
				if p.Why == 1 {
					paid[p.Index] = p
				}
			}
		}
	}
	for index := range r.said.node.Leaves() {
		l := sure(r.said.node.Leaf(index))
		if paid[index] != (api.Pay{Why: 1, Token: l.Token, To: l.To, Amount: l.Amount, Index: index}) {
			t.Fatalf("%s: leaf %d, %+v, is paid as %+v", what, index, l, paid[index])
		}
	}
}

// Truths and lies, blocks and cuts, under a watcher's eyes: no lie is confirmed, nothing is lost, and at last every leaf comes home.
func TestW5_W7_W8_Watched(t *testing.T) {
	t.Parallel()
	seen, brought := map[string]int{}, new(big.Int)
	for seed := range steps(15) {
		r := newScript(t, 5000+seed, seen)
		r.tell(t, "list", orderBytes(blockAt(1, list(2))))
		if n := r.said.node.Count(); n > 40 { // too many entries for one witness
			r.tell(t, "a great lie", orderBytes(blockAt(1, post(bob, r.lie(t, n)))))
		}
		r.watch(t, "begin")
		for i := range 60 {
			what := fmt.Sprint("script ", seed, ", step ", i)
			switch k := r.Intn(20); {
			case k < 12:
				r.tell(t, what, orderBytes(r.crowd()))
			case k < 15:
				r.tell(t, what, orderBytes(cutOf(r.Intn(4))))
			case k < 17:
				r.tell(t, what, orderBytes(claimAt(r.said.time(), r.person(), r.index())))
			case k < 18:
				r.tell(t, what, orderBytes(defendAt(r.said.time(), r.poster())))
			default:
				r.tell(t, what, orderBytes(assertAt(r.said.time(), r.person())))
			}
			r.watch(t, what)
			r.wantRight(t, what)
			r.wantNothingLost(t, what)
		}
		what := fmt.Sprint("script ", seed, ", at last")
		r.stand(t, what)
		r.bring(t, what)
		r.wantRight(t, what)
		r.wantNothingLost(t, what)
		r.wantTold(t, what)
		brought.Add(brought, big.NewInt(int64(r.said.node.Leaves())))
	}
	for _, what := range []string{"made 5 7 0", "made 5 8 0", "made 5 10 0", "made 5 12 0", "made 7 13 0", "back", "order 2 0"} {
		if seen[what] == 0 && !testing.Short() {
			t.Errorf("%s does not come", what)
		}
	}
	if brought.Sign() == 0 {
		t.Error("no leaf comes home")
	}
}
