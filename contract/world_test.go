package contract

import (
	"bytes"
	"fmt"
	"math/rand"
	"slices"
	"sync"
	"testing"

	"causeway/api"
	"causeway/exec"
	"causeway/ladder"
	"causeway/letter"
	"causeway/machine"
	"causeway/outbox"
	"causeway/store"
	"causeway/witness"
)

const (
	full = 1 << 40
	late = 1 << 62
)

func someone(n byte) api.Address { return api.Address{0: n, 7: n ^ 255, 19: n} }

// The owner of the contract, the admin of the ledger, and others.
var (
	oda = someone(101)
	zed = someone(102)
	ann = someone(0)
	bob = someone(1)
	cyd = someone(2)
	dan = someone(3)
)

func of(n uint64) api.Wide { return api.Wide{n} }

func usual() api.Config {
	return api.Config{Owner: oda, Admin: zed, Window: 100, Turn: 10, Bond: of(7)}
}

// What is asked of a contract.

func list(by api.Address, token int) api.Op { return api.Op{Kind: 1, By: by, Token: token} }

func stop(by api.Address, token, index int) api.Op {
	return api.Op{Kind: 2, By: by, Token: token, Index: index}
}

func deposit(by api.Address, token int, to api.Address, amount api.Wide, gas int) api.Op {
	return api.Op{Kind: 3, By: by, Token: token, To: to, Amount: amount, Gas: gas}
}

func send(by api.Address, body ...byte) api.Op { return api.Op{Kind: 4, By: by, Body: body} }

func post(by api.Address, c api.Commit) api.Op {
	return api.Op{Kind: 5, By: by, Body: commitBytes(c)}
}

func confirm(by api.Address) api.Op { return api.Op{Kind: 6, By: by} }

func challenge(by api.Address, number int, body []byte) api.Op {
	return api.Op{Kind: 7, By: by, Number: number, Body: body}
}

func fight(by api.Address, number int) api.Op { return api.Op{Kind: 8, By: by, Number: number} }

func split(by api.Address, number int, to api.Address, c api.Commit) api.Op {
	return api.Op{Kind: 9, By: by, Number: number, To: to, Body: commitBytes(c)}
}

func pick(by api.Address, number, index int) api.Op {
	return api.Op{Kind: 10, By: by, Number: number, Index: index}
}

func prove(by api.Address, number int, body []byte) api.Op {
	return api.Op{Kind: 11, By: by, Number: number, Body: body}
}

func expire(by api.Address, number int, to api.Address) api.Op {
	return api.Op{Kind: 12, By: by, Number: number, To: to}
}

func claim(by api.Address, body []byte, path ...api.Digest) api.Op {
	return api.Op{Kind: 13, By: by, Body: body, Path: path}
}

func commitBytes(c api.Commit) []byte {
	b, e := ladder.Bytes(c)
	if e != api.OK {
		panic(e)
	}
	return b
}

func letterBytes(l api.Letter) []byte {
	b, e := letter.Bytes(l)
	if e != api.OK {
		panic(e)
	}
	return b
}

func leafBytes(l api.Leaf) []byte {
	b, e := outbox.Bytes(l)
	if e != api.OK {
		panic(e)
	}
	return b
}

func witnessBytes(w api.Witness) []byte {
	b, e := witness.Bytes(w)
	if e != api.OK {
		panic(e)
	}
	return b
}

// The pays that go with bonds of the usual config.

func bondTo(who api.Address, number int) api.Pay {
	return api.Pay{Why: 2, To: who, Amount: of(7), Index: number}
}

func rewardTo(who api.Address, number int) api.Pay {
	return api.Pay{Why: 3, To: who, Amount: of(7), Index: number}
}

// both is a contract, and what it is by the words.
type both struct {
	contract *Contract
	said     *said
}

func newBoth(t testing.TB, config api.Config) both {
	t.Helper()
	c, e := New(config)
	s, wanted := sayNew(config)
	if e != 0 || wanted != 0 {
		t.Fatalf("New(%+v): %d, by the words %d", config, int(e), int(wanted))
	}
	return both{c, s}
}

func (b both) copied() both { return both{b.contract.Copy(), b.said.copied()} }

// wantTold holds all that the contract tells against the words.
func (b both) wantTold(t testing.TB, what string) {
	t.Helper()
	if text := b.said.differ(b.contract); text != "" {
		t.Errorf("%s: %s", what, text)
	}
}

func textOf(now int, o api.Op) string {
	body := o.Body
	if len(body) > 12 {
		body = body[:12]
	}
	return fmt.Sprintf("Do(%d, kind %d by %x, token %d, to %x, amount %v, gas %d, number %d, index %d, %d bytes %x, %d digests)", now, o.Kind, o.By[:2], o.Token, o.To[:2], o.Amount, o.Gas, o.Number, o.Index, len(o.Body), body, len(o.Path))
}

// do does an operation in both: they must answer the same, and tell the same behind it.
func (b both) do(t testing.TB, what string, now int, o api.Op) api.Result {
	t.Helper()
	got, wanted := b.contract.Do(now, o), b.said.do(now, o)
	if !sameResult(got, wanted) {
		t.Errorf("%s, %s: %+v, not %+v", what, textOf(now, o), got, wanted)
	}
	if got.Code != 0 && (got.Number != 0 || len(got.Pays) != 0) {
		t.Errorf("%s, %s: beside an error: %+v", what, textOf(now, o), got)
	}
	b.wantTold(t, what+", behind "+textOf(now, o))
	return got
}

// want does an operation of which this must come.
func (b both) want(t testing.TB, what string, now int, o api.Op, code, number int, pays ...api.Pay) both {
	t.Helper()
	got := b.do(t, what, now, o)
	if wanted := (api.Result{Code: api.Errno(code), Number: number, Pays: pays}); !sameResult(got, wanted) {
		t.Errorf("%s, %s: %+v, not %+v", what, textOf(now, o), got, wanted)
	}
	return b
}

// refuse does an operation that must be refused with this error.
func (b both) refuse(t testing.TB, what string, now int, o api.Op, code int) both {
	t.Helper()
	return b.want(t, what, now, o, code, 0)
}

// ahead does operations that must all be done, each at a time.
func (b both) ahead(t testing.TB, now int, ops ...api.Op) both {
	t.Helper()
	for _, o := range ops {
		if got := b.do(t, "ahead", now, o); got.Code != 0 {
			t.Fatalf("ahead, %s: %+v", textOf(now, o), got)
		}
	}
	return b
}

// side is the ledger that follows from an inbox: the store and the commit behind each count, and all leaves.
type side struct {
	entries []api.Entry
	tables  []*store.Table
	commits []api.Commit
	leaves  []api.Leaf
}

func newSide(admin api.Address) *side {
	table := exec.Genesis(admin)
	c, e := exec.Commit(table)
	if e != api.OK {
		panic(e)
	}
	return &side{tables: []*store.Table{table}, commits: []api.Commit{c}}
}

func (s *side) copied() *side {
	return &side{slices.Clone(s.entries), slices.Clone(s.tables), slices.Clone(s.commits), slices.Clone(s.leaves)}
}

// follow executes what is new in a contract's inbox.
func (s *side) follow(c *Contract) *side {
	box := c.Inbox()
	fresh, e := box.Entries(len(s.entries), box.Len())
	if e != api.OK {
		panic(e)
	}
	for _, entry := range fresh {
		table := s.tables[len(s.entries)].Copy()
		_, left, e := exec.Run(table, len(s.entries), entry)
		c, f := exec.Commit(table)
		if e != api.OK || f != api.OK {
			panic(max(e, f))
		}
		s.entries, s.tables, s.commits, s.leaves = append(s.entries, entry), append(s.tables, table), append(s.commits, c), append(s.leaves, left...)
	}
	return s
}

// recorded is the witness of the entries from a number on, up to and without another one.
func (s *side) recorded(from, to int) api.Witness {
	w, c, e := witness.Record(s.tables[from], s.entries[from:to]...)
	if e != api.OK || c != s.commits[to] {
		panic(fmt.Sprintf("Record of the entries %d to %d: %d, %+v, not %+v", from, to, int(e), c, s.commits[to]))
	}
	return w
}

// shown are its bytes.
func (s *side) shown(from, to int) []byte { return witnessBytes(s.recorded(from, to)) }

// lies are commits of a count that are not right, each part turned by itself, and what is right of another count. (No Leaves are below those of the count ahead.)
func (s *side) lies(count int) []api.Commit {
	c := s.commits[count]
	state, box, more, other := c, c, c, s.commits[count/2]
	state.State[31] ^= 1
	box.Outbox[0] ^= 128
	more.Leaves++
	l := []api.Commit{state, box, more, {Count: count, Leaves: c.Leaves}}
	other.Count, other.Leaves = count, c.Leaves
	if other != c {
		l = append(l, other)
	}
	return l
}

func bookOf(leaves []api.Leaf) *outbox.Book {
	book := outbox.New()
	for _, l := range leaves {
		if e := book.Put(l); e != api.OK {
			panic(e)
		}
	}
	return book
}

// claiming is the claim of a leaf among the first so many.
func claiming(by api.Address, leaves []api.Leaf, index, size int) api.Op {
	path, e := bookOf(leaves[:size]).Path(index, size)
	if e != api.OK {
		panic(e)
	}
	return claim(by, leafBytes(leaves[index]), path...)
}

// drawn is an operation that writes an entry down: the first ones make tokens and a program, then all kinds come, some of which the ledger does not do.
func drawn(r *rand.Rand, i int) api.Op {
	who, to, token, amount := someone(byte(r.Intn(4))), someone(byte(r.Intn(4))), r.Intn(3), of(uint64(1+r.Intn(9)))
	l := api.Letter{Kind: api.LetterMove, Token: token, To: to, Amount: amount}
	switch k := r.Intn(20); {
	case i < 4:
		who, l = zed, []api.Letter{{Kind: api.LetterToken}, {Kind: api.LetterToken, Token: 1}, {Kind: api.LetterCode, Code: counter()}, {Kind: api.LetterPause, Token: 2}}[i]
	case k < 7:
		return deposit(who, token, to, of(uint64(20+r.Intn(20))), 99+r.Intn(9))
	case k < 12:
		l.Kind = api.LetterBurn
	case k < 14:
		l = api.Letter{Kind: api.LetterCall, Number: 1, Gas: 5000}
	case k < 16:
		l = api.Letter{Kind: api.LetterCancel - r.Intn(2), Number: 1 + r.Intn(1+i/8)}
	case k < 17:
		l = api.Letter{Kind: api.LetterMany, Parts: []api.Letter{l, {Kind: api.LetterBurn, Token: token, To: to, Amount: amount}}}
	case k < 18:
		return send(who, 99)
	}
	return send(who, letterBytes(l)...)
}

// counter is a program that counts its calls in slot 0.
func counter() []byte {
	code, _, e := machine.Assemble("push 0\npush 0\nload\npush 1\nadd\nsave\npush 0\nload\ndone")
	if e != api.OK {
		panic(e)
	}
	return code
}

// world is a contract with entries, and the ledger behind them.
type world struct {
	both
	side *side
}

// worldOf has tokens 0 to 2 listed, and so many entries, all by time 50.
func worldOf(config api.Config, entries int) world {
	r := rand.New(rand.NewSource(18))
	c, e := New(config)
	s, f := sayNew(config)
	if e != 0 || f != 0 {
		panic(max(e, f))
	}
	do := func(now int, o api.Op, number int) {
		if got, wanted := c.Do(now, o), s.do(now, o); !sameResult(got, wanted) || got.Code != 0 || got.Number != number {
			panic(fmt.Sprintf("%s: %+v, not %+v", textOf(now, o), got, wanted))
		}
	}
	for token := range 3 {
		do(1, list(oda, token), 0)
	}
	for i := range entries {
		do(1+i*49/(entries-1), drawn(r, i), i)
	}
	return world{both{c, s}, newSide(config.Admin).follow(c)}
}

var (
	middling = sync.OnceValue(func() world { return worldOf(usual(), 80) })
	greatest = sync.OnceValue(func() world { return worldOf(usual(), 1100) })
)

// begun is a contract of the usual config with eighty entries, at time 50, and the ledger behind them, of which nobody writes into the latter.
func begun(t testing.TB) world {
	t.Helper()
	w := middling()
	if len(w.side.entries) != 80 || len(w.side.leaves) < 8 {
		t.Fatalf("the world has %d entries and %d leaves", len(w.side.entries), len(w.side.leaves))
	}
	return world{w.copied(), w.side}
}

func (w world) twin() world { return world{w.copied(), w.side} }

// posted has assertions posted by some, at a time.
func (w world) posted(t testing.TB, now int, by api.Address, commits ...api.Commit) world {
	t.Helper()
	for _, c := range commits {
		w.ahead(t, now, post(by, c))
	}
	return w
}

func copyOf(w api.Witness) api.Witness {
	c := api.Witness{Pairs: slices.Clone(w.Pairs), Proof: api.Proof{Marks: bytes.Clone(w.Proof.Marks), Sides: slices.Clone(w.Proof.Sides)}}
	for i := range c.Pairs {
		c.Pairs[i].Value = bytes.Clone(c.Pairs[i].Value)
	}
	return c
}

// forged turns a witness into others that can be written: something in it is another thing, or is missing, or is too much.
func forged(w api.Witness) []api.Witness {
	l := []api.Witness{{}}
	turned := func(turn func(c *api.Witness)) {
		c := copyOf(w)
		turn(&c)
		if b, e := witness.Bytes(c); e == api.OK && !bytes.Equal(b, witnessBytes(w)) {
			l = append(l, c)
		}
	}
	for i := range w.Pairs {
		turned(func(c *api.Witness) { c.Pairs = slices.Delete(c.Pairs, i, i+1) })
		turned(func(c *api.Witness) { c.Pairs[i].Value = nil })
		turned(func(c *api.Witness) { c.Pairs[i].Value = append(c.Pairs[i].Value, 1) })
		turned(func(c *api.Witness) { c.Pairs[i].Key += "x" })
		turned(func(c *api.Witness) {
			if n := len(c.Pairs[i].Value); n > 0 {
				c.Pairs[i].Value[n-1] ^= 1
			}
		})
	}
	for i := range w.Proof.Sides {
		turned(func(c *api.Witness) { c.Proof.Sides[i][3] ^= 4 })
		turned(func(c *api.Witness) { c.Proof.Sides = slices.Delete(c.Proof.Sides, i, i+1) })
	}
	for i := range w.Proof.Marks {
		turned(func(c *api.Witness) { c.Proof.Marks[i] ^= 1 })
		turned(func(c *api.Witness) { c.Proof.Marks[i] ^= 128 })
	}
	turned(func(c *api.Witness) { c.Proof.Marks = append(c.Proof.Marks, 0) })
	turned(func(c *api.Witness) { c.Proof.Sides = append(c.Proof.Sides, api.Digest{1}) })
	turned(func(c *api.Witness) { c.Pairs = append(c.Pairs, api.Pair{Key: "zz"}) })
	return l
}

// widened is a witness with the keys of all balances and the counts beside those that it tells.
func widened(table *store.Table, w api.Witness) api.Witness {
	keys := []string{"a", "ne", "no", "np", "nt", "o"}
	for _, p := range w.Pairs {
		keys = append(keys, p.Key)
	}
	for key := range table.All() {
		if key[0] == 'b' {
			keys = append(keys, key)
		}
	}
	slices.Sort(keys)
	keys = slices.Compact(keys)
	proof, e := table.Prove(keys...)
	if e != api.OK {
		panic(e)
	}
	more := api.Witness{Proof: proof}
	for _, key := range keys {
		value, _ := table.Find(key)
		more.Pairs = append(more.Pairs, api.Pair{Key: key, Value: value})
	}
	return more
}
