package courier

import (
	"fmt"
	"maps"
	"reflect"
	"testing"

	"causeway/api"
	"causeway/contract"
	"causeway/exec"
	"causeway/inbox"
	"causeway/ladder"
	"causeway/letter"
	"causeway/node"
	"causeway/store"
)

const (
	full = 1 << 40
	late = 1 << 62
)

func someone(n byte) api.Address { return api.Address{0: n, 7: n ^ 255, 19: n} }

// The owner of the contract, the admin of the ledger, and others.
var (
	oda = someone(101)
	zed = someone(102)
	ann = someone(0)
	bob = someone(1)
	cyd = someone(2)
	dan = someone(3)
)

func of(n uint64) api.Wide { return api.Wide{n} }

// most is the greatest amount.
func most() api.Wide { return api.Wide{1<<64 - 1, 1<<64 - 1, 1<<64 - 1, 1<<64 - 1} }

func usual() api.Config {
	return api.Config{Owner: oda, Admin: zed, Window: 100, Turn: 10, Bond: of(5)}
}

func sure[T any](value T, e api.Errno) T {
	if e != api.OK {
		panic(e)
	}
	return value
}

// Operations.

func list(token int) api.Op { return api.Op{Kind: 1, By: oda, Token: token} }

func stop(token, index int) api.Op { return api.Op{Kind: 2, By: oda, Token: token, Index: index} }

func deposit(by api.Address, token int, to api.Address, amount api.Wide, gas int) api.Op {
	return api.Op{Kind: 3, By: by, Token: token, To: to, Amount: amount, Gas: gas}
}

func send(by api.Address, body ...byte) api.Op { return api.Op{Kind: 4, By: by, Body: body} }

func written(by api.Address, l api.Letter) api.Op { return send(by, sure(letter.Bytes(l))...) }

func token(number int) api.Op {
	return written(zed, api.Letter{Kind: api.LetterToken, Token: number})
}

func burning(token int, to api.Address, amount api.Wide) api.Letter {
	return api.Letter{Kind: api.LetterBurn, Token: token, To: to, Amount: amount}
}

func burn(by api.Address, token int, to api.Address, amount uint64) api.Op {
	return written(by, burning(token, to, of(amount)))
}

func cancel(by api.Address, number int) api.Op {
	return written(by, api.Letter{Kind: api.LetterCancel, Number: number})
}

func post(by api.Address, c api.Commit) api.Op {
	return api.Op{Kind: 5, By: by, Body: sure(ladder.Bytes(c))}
}

func confirm(by api.Address) api.Op { return api.Op{Kind: 6, By: by} }

// side is by the words what a node has that followed a box: each entry is executed over a table of its own.
type side struct {
	entries []api.Entry
	tables  []*store.Table
	commits []api.Commit
	leaves  []api.Leaf
}

func newSide(admin api.Address) *side {
	table := exec.Genesis(admin)
	return &side{tables: []*store.Table{table}, commits: []api.Commit{sure(exec.Commit(table))}}
}

func inBox(b *inbox.Box) []api.Entry { return sure(b.Entries(0, b.Len())) }

func (s *side) follow(b *inbox.Box) {
	l := inBox(b)
	n := common(s.entries, l)
	s.tables, s.commits = s.tables[:n+1:n+1], s.commits[:n+1:n+1]
	s.leaves = s.leaves[:s.commits[n].Leaves:s.commits[n].Leaves]
	for i, entry := range l[n:] {
		table := s.tables[n+i].Copy()
		_, leaves, e := exec.Run(table, n+i, entry)
		if e != api.OK {
			panic(e)
		}
		s.tables, s.commits = append(s.tables, table), append(s.commits, sure(exec.Commit(table)))
		s.leaves = append(s.leaves, leaves...)
	}
	s.entries = l
}

// world is a contract, what it has paid, a node, and by the words what that node has.
type world struct {
	c    *contract.Contract
	paid map[int]api.Pay // by their indexes
	n    *node.Node
	side *side
}

// newWorld is one in which some operations are done at time 1, and followed.
func newWorld(t testing.TB, ops ...api.Op) *world {
	t.Helper()
	w := &world{sure(contract.New(usual())), map[int]api.Pay{}, node.New(zed), newSide(zed)}
	return w.do(t, 1, ops...).follow(t)
}

// leafy is a row of operations by which so many leaves leave, one behind the other, each by an entry of its own: of token 0 and of token 1, by burns and by tickets that are cancelled. Some entries behind them do nothing.
func leafy(leaves int) []api.Op {
	l := []api.Op{list(0), list(1), token(0), token(1), deposit(ann, 0, bob, of(1e6), 100), deposit(ann, 1, cyd, of(1e6), 100)}
	for i := range leaves {
		to, k := someone(byte(i%7)), uint64(1+i)
		switch i % 3 {
		case 0:
			l = append(l, burn(bob, 0, to, k))
		case 1:
			l = append(l, burn(cyd, 1, to, k))
		case 2:
			l = append(l, deposit(dan, i%2, to, of(k), 99), cancel(dan, 1+i/3))
		}
	}
	for i := range 6 {
		l = append(l, send(dan, byte(i)))
	}
	return l
}

// with is a world with a contract of its own, in which some operations are done at a time; the node is the same one, and only looked at.
func (w *world) with(t testing.TB, now int, ops ...api.Op) *world {
	t.Helper()
	return w.copied().do(t, now, ops...)
}

func (w *world) copied() *world { return &world{w.c.Copy(), maps.Clone(w.paid), w.n, w.side} }

// try does an operation, or not, and writes down what is paid.
func (w *world) try(now int, o api.Op) api.Result {
	r := w.c.Do(now, o)
	for _, p := range r.Pays {
		if p.Why == 1 {
			w.paid[p.Index] = p
		}
	}
	return r
}

// do does operations that must be done.
func (w *world) do(t testing.TB, now int, ops ...api.Op) *world {
	t.Helper()
	for _, o := range ops {
		if r := w.try(now, o); r.Code != api.OK {
			t.Fatalf("Do(%d, %s): %d", now, textOf(o), int(r.Code))
		}
	}
	return w
}

// post posts commits, now.
func (w *world) post(t testing.TB, l ...api.Commit) *world {
	t.Helper()
	for _, c := range l {
		w.do(t, w.c.Now(), post(ann, c))
	}
	return w
}

// stand posts commits and lets each be confirmed.
func (w *world) stand(t testing.TB, l ...api.Commit) *world {
	t.Helper()
	for _, c := range l {
		w.post(t, c).do(t, w.c.Now()+100, confirm(ann))
	}
	return w
}

// follow lets the node follow the contract's inbox.
func (w *world) follow(t testing.TB) *world {
	t.Helper()
	return w.lead(t, w.c.Inbox())
}

// lead lets the node follow a box.
func (w *world) lead(t testing.TB, b *inbox.Box) *world {
	t.Helper()
	if _, e := w.n.Follow(b, 3); e != api.OK || w.n.Count() != b.Len() {
		t.Fatalf("Follow: %d", int(e))
	}
	w.side.follow(b)
	return w
}

// seen is a world of the same contract whose node has followed its first entries alone, and then others behind them.
func (w *world) seen(t testing.TB, first int, others ...api.Op) *world {
	t.Helper()
	other := &world{w.c, w.paid, node.New(zed), newSide(zed)}
	b := inbox.New()
	for _, e := range inBox(w.c.Inbox())[:first] {
		sure(b.Add(e))
	}
	for _, o := range others {
		kind := api.EntryDeposit
		if o.Kind == api.OpSend {
			kind = api.EntryCall
		}
		sure(b.Add(api.Entry{Kind: kind, Sender: o.By, Time: w.c.Now(), Token: o.Token, To: o.To, Amount: o.Amount, Gas: o.Gas, Body: o.Body}))
	}
	return other.lead(t, b)
}

// entries is how many there are in the inbox.
func (w *world) entries() int { return w.c.Inbox().Len() }

// behind is the first commit of the node's with so many leaves.
func (w *world) behind(t testing.TB, leaves int) api.Commit {
	t.Helper()
	for _, c := range w.side.commits {
		if c.Leaves == leaves {
			return c
		}
	}
	t.Fatalf("there is no commit with %d leaves", leaves)
	return api.Commit{}
}

// last is the node's commit behind all of its entries.
func (w *world) last() api.Commit { return w.side.commits[len(w.side.entries)] }

// What a commit may be turned into.

func noughts(c api.Commit) api.Commit {
	c.Outbox = api.Digest{}
	return c
}

func turned(c api.Commit) api.Commit {
	c.Outbox[31] ^= 1
	return c
}

func leaves(c api.Commit, n int) api.Commit {
	c.Leaves = n
	return c
}

func count(c api.Commit, n int) api.Commit {
	c.Count = n
	return c
}

// tell is all that a contract tells.
func tell(c *contract.Contract) []any {
	l := []any{c.Config(), c.Now(), c.Locked(), c.Confirmed(), c.Top(), c.Pending(), c.Duels(), inBox(c.Inbox())}
	for n := -1; n < 66; n++ {
		there, stopped := c.Listed(n)
		l = append(l, c.Held(n), there, stopped, c.Paid(n))
	}
	for n := range c.Inbox().Len() + 1 {
		l = append(l, sure(c.Inbox().Link(n)))
	}
	return append(l, c.Paid(full-1), c.Paid(full))
}

// tellNode is nearly all that a node tells.
func tellNode(n *node.Node) []any {
	l := []any{n.Count(), n.Leaves()}
	for i := range n.Count() + 2 {
		c, e := n.Commit(i)
		r, f := n.Receipt(i)
		x, g := n.Ticket(i)
		l = append(l, c, e, r, f, x, g)
	}
	for i := range n.Leaves() {
		leaf, e := n.Leaf(i)
		path, f := n.Path(i, n.Leaves())
		l = append(l, leaf, e, path, f)
	}
	for token := range 3 {
		x, e := n.Token(token)
		l = append(l, x, e)
		for i := range 4 {
			b, e := n.Balance(token, someone(byte(i)))
			l = append(l, b, e)
		}
	}
	for _, x := range [][2]int{{0, 1}, {max(0, n.Count()-32), n.Count()}} {
		w, e := n.Witness(x[0], x[1])
		l = append(l, w, e)
	}
	return l
}

// stays tells whether the node and the contract tell the same behind something.
func (w *world) stays(t testing.TB, what string, do func()) {
	t.Helper()
	c, n := tell(w.c), tellNode(w.n)
	do()
	if !reflect.DeepEqual(tell(w.c), c) {
		t.Errorf("%s: the contract has turned", what)
	}
	if !reflect.DeepEqual(tellNode(w.n), n) {
		t.Errorf("%s: the node has turned", what)
	}
}

func textOf(o api.Op) string {
	return fmt.Sprintf("kind %d by %x, token %d, to %x, gas %d, number %d, index %d, body %x, path %x", o.Kind, o.By[:3], o.Token, o.To[:3], o.Gas, o.Number, o.Index, o.Body[:min(len(o.Body), 40)], o.Path)
}
