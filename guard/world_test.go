package guard

import (
	"fmt"
	"reflect"
	"slices"
	"strings"
	"sync"
	"testing"

	"causeway/api"
	"causeway/contract"
	"causeway/exec"
	"causeway/inbox"
	"causeway/ladder"
	"causeway/letter"
	"causeway/machine"
	"causeway/node"
	"causeway/store"
	"causeway/witness"
)

const (
	full = 1 << 40
	late = 1 << 62
)

func someone(n byte) api.Address { return api.Address{0: n, 7: n ^ 255, 19: n} }

// The owner of the contract, the admin of the ledger, a watcher, and others.
var (
	oda = someone(101)
	zed = someone(102)
	wes = someone(103)
	ann = someone(0)
	bob = someone(1)
	cyd = someone(2)
	dan = someone(3)
)

// manyOnes are so many people, by rising addresses.
func manyOnes(n int) []api.Address {
	var l []api.Address
	for i := range n {
		l = append(l, api.Address{50, byte(i >> 8), byte(i)})
	}
	return l
}

func of(n uint64) api.Wide { return api.Wide{n} }

// usual is a config with the chapter's Window and Turn.
func usual() api.Config {
	return api.Config{Owner: oda, Admin: zed, Window: 1000, Turn: 100, Bond: of(7)}
}

func sure[T any](value T, e api.Errno) T {
	if e != api.OK {
		panic(e)
	}
	return value
}

// Operations.

func list(token int) api.Op { return api.Op{Kind: 1, By: oda, Token: token} }

func deposit(by api.Address, token int, to api.Address, amount uint64, gas int) api.Op {
	return api.Op{Kind: 3, By: by, Token: token, To: to, Amount: of(amount), Gas: gas}
}

func send(by api.Address, body ...byte) api.Op { return api.Op{Kind: 4, By: by, Body: body} }

func written(by api.Address, l api.Letter) api.Op { return send(by, sure(letter.Bytes(l))...) }

func burn(by api.Address, token int, to api.Address, amount uint64) api.Op {
	return written(by, api.Letter{Kind: api.LetterBurn, Token: token, To: to, Amount: of(amount)})
}

func move(by api.Address, token int, to api.Address, amount uint64) api.Op {
	return written(by, api.Letter{Kind: api.LetterMove, Token: token, To: to, Amount: of(amount)})
}

func post(by api.Address, c api.Commit) api.Op {
	return api.Op{Kind: 5, By: by, Body: sure(ladder.Bytes(c))}
}

func confirm(by api.Address) api.Op { return api.Op{Kind: 6, By: by} }

func challenge(by api.Address, number int, body []byte) api.Op {
	return api.Op{Kind: 7, By: by, Number: number, Body: body}
}

func fight(by api.Address, number int) api.Op { return api.Op{Kind: 8, By: by, Number: number} }

func split(by api.Address, number int, to api.Address, c api.Commit) api.Op {
	return api.Op{Kind: 9, By: by, Number: number, To: to, Body: sure(ladder.Bytes(c))}
}

func pick(by api.Address, number, index int) api.Op {
	return api.Op{Kind: 10, By: by, Number: number, Index: index}
}

func prove(by api.Address, number int, body []byte) api.Op {
	return api.Op{Kind: 11, By: by, Number: number, Body: body}
}

func expire(by api.Address, number int, to api.Address) api.Op {
	return api.Op{Kind: 12, By: by, Number: number, To: to}
}

func program(lines ...string) []byte {
	code, _, e := machine.Assemble(strings.Join(lines, "\n"))
	return sure(code, e)
}

// lines is a row of so many entries of many kinds, by which tokens come, tickets stay, and leaves leave.
func lines(n int) []api.Op {
	l := []api.Op{
		deposit(ann, 0, bob, 50, 100),
		written(zed, api.Letter{Kind: api.LetterToken}),
		written(zed, api.Letter{Kind: api.LetterToken, Token: 1}),
		deposit(ann, 0, bob, 500, 100),
		deposit(bob, 1, cyd, 300, 100),
		written(dan, api.Letter{Kind: api.LetterRetry, Number: 1}),
		written(dan, api.Letter{Kind: api.LetterCode, Code: program("arg 0", "dup 0", "load", "push 1", "add", "save", "arg 0", "done")}),
	}
	for i := len(l); i < n; i++ {
		who, k := someone(byte(1+i%3)), uint64(1+i%4)
		l = append(l, []api.Op{
			burn(bob, 0, who, k),
			move(cyd, 1, who, k),
			deposit(who, i%3%2, ann, k, 97+i%6),
			send(who, byte(i), byte(i>>8)),
			burn(cyd, 1, who, k),
			written(who, api.Letter{Kind: api.LetterCall, Number: 1, Gas: 900, Args: []api.Wide{of(uint64(i % 5))}}),
			burn(cyd, 1, ann, 1000),
			written(ann, api.Letter{Kind: api.LetterCancel, Number: 1 + i/8}),
			written(bob, api.Letter{Kind: api.LetterMany, Parts: []api.Letter{
				{Kind: api.LetterBurn, To: who, Amount: of(k)},
				{Kind: api.LetterMove, To: ann, Amount: of(k)},
			}}),
		}[i%9])
	}
	return l[:n]
}

// spare are contracts with so many entries, which are made once, and copied.
var spare struct {
	sync.Mutex
	made map[int]*contract.Contract
}

// grown is a contract with so many entries of many kinds, at time 1.
func grown(entries int) *contract.Contract {
	spare.Lock()
	defer spare.Unlock()
	if c := spare.made[entries]; c != nil {
		return c.Copy()
	}
	c := sure(contract.New(usual()))
	for _, o := range append([]api.Op{list(0), list(1)}, lines(entries)...) {
		if r := c.Do(1, o); r.Code != api.OK {
			panic(r.Code)
		}
	}
	if spare.made == nil {
		spare.made = map[int]*contract.Contract{}
	}
	spare.made[entries] = c.Copy()
	return c
}

// side is by the words what a node has that followed a box: each entry is executed over a table of its own.
type side struct {
	entries []api.Entry
	tables  []*store.Table
	commits []api.Commit
	made    map[[2]int][]byte // bytes of witnesses, by their entries
}

func newSide(admin api.Address) *side {
	table := exec.Genesis(admin)
	return &side{tables: []*store.Table{table}, commits: []api.Commit{sure(exec.Commit(table))}, made: map[[2]int][]byte{}}
}

func inBox(b *inbox.Box) []api.Entry { return sure(b.Entries(0, b.Len())) }

func (s *side) follow(b *inbox.Box) {
	l := inBox(b)
	n := common(s.entries, l)
	s.tables, s.commits = s.tables[:n+1:n+1], s.commits[:n+1:n+1]
	for i, entry := range l[n:] {
		table := s.tables[n+i].Copy()
		if _, _, e := exec.Run(table, n+i, entry); e != api.OK {
			panic(e)
		}
		s.tables, s.commits = append(s.tables, table), append(s.commits, sure(exec.Commit(table)))
	}
	if n < len(s.entries) {
		s.made = map[[2]int][]byte{}
	}
	s.entries = l
}

// shown are the bytes of what is recorded of the entries from a number on, up to and without another one.
func (s *side) shown(from, to int) []byte {
	at := [2]int{from, to}
	if s.made[at] == nil {
		w, _, e := witness.Record(s.tables[from].Copy(), s.entries[from:to]...)
		if e != api.OK {
			panic(e)
		}
		s.made[at] = sure(witness.Bytes(w))
	}
	return slices.Clone(s.made[at])
}

// lies are commits of a count that are not the one behind it: each in one part alone, and one in all.
func (s *side) lies(count int) []api.Commit {
	l := make([]api.Commit, 5)
	for i := range l {
		l[i] = s.commits[count]
	}
	l[0].State[31] ^= 1
	l[1].Outbox[0] ^= 128
	l[2].Leaves++
	l[3].State[0] ^= 128
	l[4] = api.Commit{Count: count, Leaves: l[4].Leaves + 9}
	return l
}

// world is a contract, a node, and by the words what that node has.
type world struct {
	c    *contract.Contract
	n    *node.Node
	side *side
}

// newWorld is one with so many entries, all of which the node has followed.
func newWorld(t testing.TB, entries int) *world {
	t.Helper()
	w := &world{c: grown(entries), n: node.New(zed), side: newSide(zed)}
	w.follow(t)
	return w
}

// with is a world with a contract of its own, in which some operations are done at times; the node is the same one, and only looked at.
func (w *world) with(t testing.TB, now int, ops ...api.Op) *world {
	t.Helper()
	return (&world{w.c.Copy(), w.n, w.side}).do(t, now, ops...)
}

// do does operations that must be done.
func (w *world) do(t testing.TB, now int, ops ...api.Op) *world {
	t.Helper()
	for _, o := range ops {
		if r := w.c.Do(now, o); r.Code != api.OK {
			t.Fatalf("Do(%d, %s): %d", now, textOf(o), int(r.Code))
		}
	}
	return w
}

// follow lets the node follow the contract's inbox.
func (w *world) follow(t testing.TB) *world {
	t.Helper()
	return w.lead(t, w.c.Inbox())
}

// lead lets the node follow a box.
func (w *world) lead(t testing.TB, b *inbox.Box) *world {
	t.Helper()
	if _, e := w.n.Follow(b, 3); e != api.OK || w.n.Count() != b.Len() {
		t.Fatalf("Follow: %d", int(e))
	}
	w.side.follow(b)
	return w
}

// seen is a world of the same contract whose node has followed its first entries alone, and then others behind them.
func (w *world) seen(t testing.TB, first int, others ...api.Op) *world {
	t.Helper()
	other := &world{c: w.c, n: node.New(zed), side: newSide(zed)}
	b := inbox.New()
	for _, e := range inBox(w.c.Inbox())[:first] {
		sure(b.Add(e))
	}
	for _, o := range others {
		kind := api.EntryDeposit
		if o.Kind == api.OpSend {
			kind = api.EntryCall
		}
		sure(b.Add(api.Entry{Kind: kind, Sender: o.By, Time: 1, Token: o.Token, To: o.To, Amount: o.Amount, Gas: o.Gas, Body: o.Body}))
	}
	return other.lead(t, b)
}

// ours is C(k), other is X(k).
func (w *world) ours(k int) api.Commit  { return w.side.commits[k] }
func (w *world) other(k int) api.Commit { return w.side.lies(k)[0] }

// duel is how the duel of a number and a challenger stands.
func (w *world) duel(t testing.TB, number int, who api.Address) api.Duel {
	t.Helper()
	for _, d := range w.c.Duels() {
		if d.Number == number && d.Challenger == who {
			return d
		}
	}
	t.Fatalf("there is no duel over %d of %x", number, who[:2])
	return api.Duel{}
}

// tell is all that a contract tells.
func tell(c *contract.Contract) []any {
	l := []any{c.Config(), c.Now(), c.Locked(), c.Confirmed(), c.Top(), c.Pending(), c.Duels(), inBox(c.Inbox())}
	for n := -1; n < 66; n++ {
		there, stopped := c.Listed(n)
		l = append(l, c.Held(n), there, stopped, c.Paid(n))
	}
	for n := range c.Inbox().Len() + 1 {
		l = append(l, sure(c.Inbox().Link(n)))
	}
	return l
}

// tellNode is nearly all that a node tells.
func tellNode(n *node.Node) []any {
	l := []any{n.Count(), n.Leaves()}
	for i := range n.Count() + 2 {
		c, e := n.Commit(i)
		r, f := n.Receipt(i)
		x, g := n.Ticket(i)
		l = append(l, c, e, r, f, x, g)
	}
	for i := range n.Leaves() {
		leaf, e := n.Leaf(i)
		path, f := n.Path(i, n.Leaves())
		l = append(l, leaf, e, path, f)
	}
	for token := range 3 {
		x, e := n.Token(token)
		l = append(l, x, e)
		for i := range 4 {
			b, e := n.Balance(token, someone(byte(i)))
			l = append(l, b, e)
		}
	}
	for _, x := range [][2]int{{0, 1}, {0, min(32, n.Count())}, {max(0, n.Count()-32), n.Count()}, {n.Count() - 1, n.Count()}} {
		w, e := n.Witness(x[0], x[1])
		l = append(l, w, e)
	}
	return l
}

// stays tells whether the node and the contract tell the same behind something.
func (w *world) stays(t testing.TB, what string, do func()) {
	t.Helper()
	c, n := tell(w.c), tellNode(w.n)
	do()
	if !reflect.DeepEqual(tell(w.c), c) {
		t.Errorf("%s: the contract has turned", what)
	}
	if !reflect.DeepEqual(tellNode(w.n), n) {
		t.Errorf("%s: the node has turned", what)
	}
}

func textOf(l ...api.Op) string {
	text := fmt.Sprint(len(l), " operations")
	for _, o := range l[:min(len(l), 5)] {
		text += fmt.Sprintf("; kind %d by %x, to %x, number %d, index %d, %d bytes", o.Kind, o.By[:3], o.To[:3], o.Number, o.Index, len(o.Body))
	}
	return text
}
