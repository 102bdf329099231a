package chain

import (
	"bytes"
	"fmt"
	"math"
	"reflect"
	"slices"
	"sync"
	"testing"

	"causeway/api"
	"causeway/contract"
	"causeway/exec"
	"causeway/inbox"
	"causeway/ladder"
	"causeway/letter"
	"causeway/outbox"
	"causeway/store"
	"causeway/witness"
)

const (
	full = 1 << 40
	late = 1 << 62
)

func someone(n byte) api.Address { return api.Address{0: n, 7: n ^ 255, 19: n} }

// The owner of the contract, the admin of the ledger, and others.
var (
	oda = someone(101)
	zed = someone(102)
	ann = someone(0)
	bob = someone(1)
	cyd = someone(2)
	dan = someone(3)
)

func of(n uint64) api.Wide { return api.Wide{n} }

func usual() api.Config {
	return api.Config{Owner: oda, Admin: zed, Window: 100, Turn: 10, Bond: of(7)}
}

// What stands in blocks.

func blockOf(time int, ops ...api.Op) api.Block { return api.Block{Time: time, Ops: ops} }

func list(by api.Address, token int) api.Op { return api.Op{Kind: 1, By: by, Token: token} }

func stop(by api.Address, token, index int) api.Op {
	return api.Op{Kind: 2, By: by, Token: token, Index: index}
}

func deposit(by api.Address, token int, to api.Address, amount api.Wide, gas int) api.Op {
	return api.Op{Kind: 3, By: by, Token: token, To: to, Amount: amount, Gas: gas}
}

func send(by api.Address, body ...byte) api.Op { return api.Op{Kind: 4, By: by, Body: body} }

func post(by api.Address, c api.Commit) api.Op {
	return api.Op{Kind: 5, By: by, Body: sure(ladder.Bytes(c))}
}

func confirm(by api.Address) api.Op { return api.Op{Kind: 6, By: by} }

func challenge(by api.Address, number int, body []byte) api.Op {
	return api.Op{Kind: 7, By: by, Number: number, Body: body}
}

func fight(by api.Address, number int) api.Op { return api.Op{Kind: 8, By: by, Number: number} }

func split(by api.Address, number int, to api.Address, c api.Commit) api.Op {
	return api.Op{Kind: 9, By: by, Number: number, To: to, Body: sure(ladder.Bytes(c))}
}

func pick(by api.Address, number, index int) api.Op {
	return api.Op{Kind: 10, By: by, Number: number, Index: index}
}

func prove(by api.Address, number int, body []byte) api.Op {
	return api.Op{Kind: 11, By: by, Number: number, Body: body}
}

func expire(by api.Address, number int, to api.Address) api.Op {
	return api.Op{Kind: 12, By: by, Number: number, To: to}
}

func claim(by api.Address, leaf api.Leaf, path ...api.Digest) api.Op {
	return api.Op{Kind: 13, By: by, Body: sure(outbox.Bytes(leaf)), Path: path}
}

func written(by api.Address, l api.Letter) api.Op { return send(by, sure(letter.Bytes(l))...) }

func sure[T any](value T, e api.Errno) T {
	if e != api.OK {
		panic(e)
	}
	return value
}

// side is the ledger that follows from an inbox: the store and the commit behind each count, and all leaves.
type side struct {
	box     *inbox.Box
	tables  []*store.Table
	commits []api.Commit
	leaves  []api.Leaf
}

func newSide(admin api.Address) *side {
	table := exec.Genesis(admin)
	return &side{box: inbox.New(), tables: []*store.Table{table}, commits: []api.Commit{sure(exec.Commit(table))}}
}

// follow takes back what is not in an inbox any more, and executes what is new there.
func (s *side) follow(box *inbox.Box) {
	n := s.box.Fork(box)
	s.tables, s.commits, s.leaves = s.tables[:n+1:n+1], s.commits[:n+1:n+1], slices.Clip(s.leaves[:s.commits[n].Leaves])
	for i, entry := range sure(box.Entries(n, box.Len())) {
		table := s.tables[n+i].Copy()
		_, left, e := exec.Run(table, n+i, entry)
		if e != api.OK {
			panic(e)
		}
		s.tables, s.commits, s.leaves = append(s.tables, table), append(s.commits, sure(exec.Commit(table))), append(s.leaves, left...)
	}
	s.box = box.Copy()
}

// shown is what is recorded of the entries from a number on, up to and without another one.
func (s *side) shown(from, to int) []byte {
	w, _, e := witness.Record(s.tables[from], sure(s.box.Entries(from, to))...)
	if e != api.OK {
		panic(e)
	}
	return sure(witness.Bytes(w))
}

// lie is a commit of a count that is not right.
func (s *side) lie(count int) api.Commit {
	c := s.commits[count]
	c.State[31] ^= 1
	return c
}

// claiming is the claim of a leaf among the first so many.
func (s *side) claiming(by api.Address, index, size int) api.Op {
	book := outbox.New()
	for _, l := range s.leaves[:size] {
		if e := book.Put(l); e != api.OK {
			panic(e)
		}
	}
	return claim(by, s.leaves[index], sure(book.Path(index, size))...)
}

// told is all that a contract tells.
type told struct {
	config         api.Config
	now            int
	held           []api.Wide
	locked         api.Wide
	listed         []bool
	paid           []bool
	confirmed, top api.Commit
	pending        []api.Pending
	duels          []api.Duel
	entries        []api.Entry
	links          []api.Digest
}

func tell(c *contract.Contract) told {
	x := told{config: c.Config(), now: c.Now(), locked: c.Locked(), confirmed: c.Confirmed(), top: c.Top(), pending: c.Pending(), duels: c.Duels()}
	for _, n := range []int{math.MinInt, -1, 64, 1 << 32, full - 1, full, math.MaxInt} {
		there, stopped := c.Listed(n)
		x.held, x.listed, x.paid = append(x.held, c.Held(n)), append(x.listed, there, stopped), append(x.paid, c.Paid(n))
	}
	for n := range 64 {
		there, stopped := c.Listed(n)
		x.held, x.listed, x.paid = append(x.held, c.Held(n)), append(x.listed, there, stopped), append(x.paid, c.Paid(n))
	}
	box := c.Inbox()
	x.entries, _ = box.Entries(0, box.Len())
	for n := range box.Len() + 1 {
		link, _ := box.Link(n)
		x.links = append(x.links, link)
	}
	return x
}

// The second reckoning: a chain is its config, the blocks that are left, and how many can be lost. The contract behind them is a new one that is given their operations, one by one, whenever it is asked for. Errors and limits are written out, not taken from api.
type said struct {
	config api.Config
	blocks []api.Block
	lose   int
}

func (s *said) time() int {
	if len(s.blocks) == 0 {
		return 0
	}
	return s.blocks[len(s.blocks)-1].Time
}

// again is the contract behind the first so many blocks, and what it answers on the way, by blocks.
func (s *said) again(height int) (*contract.Contract, [][]api.Result) {
	c := sure(contract.New(s.config))
	var all [][]api.Result
	for _, b := range s.blocks[:height] {
		var results []api.Result
		for _, o := range b.Ops {
			results = append(results, c.Do(b.Time, o))
		}
		all = append(all, results)
	}
	return c, all
}

func (s *said) why(b api.Block) api.Errno {
	if len(b.Ops) > 256 {
		return 190
	}
	if b.Time < 0 || b.Time < s.time() || b.Time > 4611686018427387904 {
		return 191
	}
	return 0
}

func (s *said) extend(b api.Block) ([]api.Result, api.Errno) {
	if e := s.why(b); e != 0 {
		return nil, e
	}
	s.blocks = append(s.blocks, keptBlock(b))
	s.lose = min(s.lose+1, 8)
	_, all := s.again(len(s.blocks))
	return all[len(all)-1], 0
}

func (s *said) cut(n int) api.Errno {
	if n < 0 || n > s.lose {
		return 192
	}
	s.blocks = s.blocks[:len(s.blocks)-n]
	s.lose -= n
	return 0
}

func keptBlock(b api.Block) api.Block {
	b.Ops = slices.Clone(b.Ops)
	for i, o := range b.Ops {
		b.Ops[i].Body, b.Ops[i].Path = bytes.Clone(o.Body), slices.Clone(o.Path)
	}
	return b
}

func keptResults(l []api.Result) []api.Result {
	l = slices.Clone(l)
	for i, r := range l {
		l[i].Pays = slices.Clone(r.Pays)
	}
	return l
}

func sameOp(a, b api.Op) bool {
	same := bytes.Equal(a.Body, b.Body) && slices.Equal(a.Path, b.Path)
	a.Body, a.Path, b.Body, b.Path = nil, nil, nil, nil
	return same && reflect.DeepEqual(a, b)
}

func sameBlock(a, b api.Block) bool {
	return a.Time == b.Time && slices.EqualFunc(a.Ops, b.Ops, sameOp)
}

func sameResults(a, b []api.Result) bool {
	return slices.EqualFunc(a, b, func(x, y api.Result) bool {
		return x.Code == y.Code && x.Number == y.Number && slices.Equal(x.Pays, y.Pays)
	})
}

// both is a chain, and what it is by the words.
type both struct {
	chain *Chain
	said  *said
}

func newBoth(t testing.TB, config api.Config) both {
	t.Helper()
	c, e := New(config)
	if e != 0 || c == nil {
		t.Fatalf("New(%+v): %d", config, int(e))
	}
	return both{c, &said{config: config}}
}

// wantTold holds all that the chain tells against the words.
func (b both) wantTold(t testing.TB, what string) {
	t.Helper()
	if text := b.differ(); text != "" {
		t.Errorf("%s: %s", what, text)
	}
}

// differ tells where the chain tells something else than the words; nothing, if it does not.
func (b both) differ() string {
	c, s := b.chain, b.said
	n := len(s.blocks)
	if c.Height() != n || c.Time() != s.time() {
		return fmt.Sprintf("Height is %d, Time %d, not %d, %d", c.Height(), c.Time(), n, s.time())
	}
	for _, blocks := range []int{math.MinInt, -1, s.lose + 1, s.lose + 2, 9, n + 1, math.MaxInt} {
		if e := c.Cut(blocks); e != 192 {
			return fmt.Sprintf("Cut(%d) is %d, while %d can be lost", blocks, int(e), s.lose)
		}
	}
	fresh, all := s.again(n)
	for i, wanted := range all {
		block, e := c.Block(i + 1)
		results, f := c.Results(i + 1)
		if e != 0 || f != 0 || !sameBlock(block, s.blocks[i]) || !sameResults(results, wanted) {
			return fmt.Sprintf("block %d is %+v, %d, with %+v, %d, not %+v, with %+v", i+1, block, int(e), results, int(f), s.blocks[i], wanted)
		}
	}
	for _, height := range []int{math.MinInt, -n, -1, 0, n + 1, n + 2, math.MaxInt} {
		block, e := c.Block(height)
		results, f := c.Results(height)
		if e != 194 || f != 194 || block.Time != 0 || len(block.Ops) != 0 || len(results) != 0 {
			return fmt.Sprintf("block %d is %+v, %d, with %+v, %d", height, block, int(e), results, int(f))
		}
	}
	if got, wanted := tell(c.Contract()), tell(fresh); !reflect.DeepEqual(got, wanted) {
		return fmt.Sprintf("the contract tells %+v, not %+v", got, wanted)
	}
	return ""
}

func textOf(b api.Block) string {
	text := fmt.Sprintf("a block at %d of %d operations", b.Time, len(b.Ops))
	for _, o := range b.Ops[:min(len(b.Ops), 9)] {
		text += fmt.Sprintf("; kind %d by %x, token %d, to %x, number %d, index %d, %d bytes", o.Kind, o.By[:2], o.Token, o.To[:2], o.Number, o.Index, len(o.Body))
	}
	return text
}

// extend adds a block in both: they must answer the same.
func (b both) extend(t testing.TB, what string, block api.Block) ([]api.Result, api.Errno) {
	t.Helper()
	got, e := b.chain.Extend(block)
	wanted, f := b.said.extend(block)
	if e != f || !sameResults(got, wanted) {
		t.Errorf("%s, Extend of %s: %+v, %d, not %+v, %d", what, textOf(block), got, int(e), wanted, int(f))
	}
	if e != 0 && len(got) != 0 {
		t.Errorf("%s, Extend of %s: beside an error: %+v", what, textOf(block), got)
	}
	return got, e
}

// ahead adds blocks that must not be refused.
func (b both) ahead(t testing.TB, blocks ...api.Block) both {
	t.Helper()
	for _, block := range blocks {
		if _, e := b.extend(t, "ahead", block); e != 0 {
			t.Fatalf("ahead, Extend of %s: %d", textOf(block), int(e))
		}
	}
	return b
}

// want adds a block of whose operations these Codes must come, and behind which all is told rightly.
func (b both) want(t testing.TB, what string, block api.Block, codes ...int) both {
	t.Helper()
	got, e := b.extend(t, what, block)
	if e != 0 || len(got) != len(codes) {
		t.Errorf("%s, Extend of %s: %+v, %d", what, textOf(block), got, int(e))
		return b
	}
	for i, code := range codes {
		if int(got[i].Code) != code || code != 0 && (got[i].Number != 0 || len(got[i].Pays) != 0) {
			t.Errorf("%s, operation %d of %s: %+v, not %d", what, i, textOf(block), got[i], code)
		}
	}
	b.wantTold(t, what)
	return b
}

// refuse adds a block that must be refused with this error, and changes nothing.
func (b both) refuse(t testing.TB, what string, block api.Block, code int) both {
	t.Helper()
	if _, e := b.extend(t, what, block); int(e) != code {
		t.Errorf("%s, Extend of %s: %d, not %d", what, textOf(block), int(e), code)
	}
	b.wantTold(t, what)
	return b
}

// cut loses blocks in both, of which this must come.
func (b both) cut(t testing.TB, what string, n, code int) both {
	t.Helper()
	if e, f := b.chain.Cut(n), b.said.cut(n); int(e) != code || e != f {
		t.Errorf("%s, Cut(%d): %d, not %d (by the words %d)", what, n, int(e), code, int(f))
	}
	b.wantTold(t, what)
	return b
}

// empty adds so many blocks without operations, at a time.
func (b both) empty(t testing.TB, time, count int) both {
	t.Helper()
	for range count {
		b.ahead(t, blockOf(time))
	}
	return b
}

// story is a row of blocks in which operations of all kinds are done, and refused.
type story struct {
	blocks  []api.Block
	results [][]api.Result
	side    *side
}

// add does operations at a time, and makes a block of them.
func (s *story) add(c *contract.Contract, time int, ops ...api.Op) {
	var results []api.Result
	for _, o := range ops {
		results = append(results, c.Do(time, o))
	}
	s.blocks, s.results = append(s.blocks, blockOf(time, ops...)), append(s.results, results)
	s.side.follow(c.Inbox())
}

// theStory is of the usual config. Nobody writes into what it gives.
var theStory = sync.OnceValue(func() story {
	c := sure(contract.New(usual()))
	s := story{side: newSide(zed)}
	add := func(time int, ops ...api.Op) { s.add(c, time, ops...) }
	add(5, list(oda, 0), list(oda, 0), list(oda, 1), list(ann, 2), list(oda, 2))
	add(6, written(zed, api.Letter{Kind: api.LetterToken}), written(zed, api.Letter{Kind: api.LetterToken, Token: 1}), deposit(ann, 0, bob, of(90), 100), deposit(bob, 1, cyd, of(70), 99))
	var burns []api.Op
	for i := range 36 {
		burns = append(burns, written(bob, api.Letter{Kind: api.LetterBurn, To: someone(byte(i % 4)), Amount: of(uint64(1 + i%3))}))
	}
	add(6, burns...)
	add(7, stop(oda, 2, 1), stop(oda, 2, 1), deposit(ann, 2, bob, of(4), 100), send(dan, 99), send(dan), post(ann, s.side.commits[8]), post(bob, s.side.lie(20)), post(cyd, api.Commit{Count: 2000}))
	add(8)
	add(9, challenge(cyd, 2, s.side.shown(0, 8)), challenge(cyd, 2, s.side.shown(8, 20)), challenge(dan, 1, s.side.shown(0, 8)), post(bob, s.side.lie(41)), post(dan, s.side.lie(42)), stop(oda, 2, 0))
	add(10, fight(cyd, 3), fight(dan, 3), fight(bob, 3), fight(ann, 3), fight(ann, 4), claim(ann, s.side.leaves[0]))
	add(12, split(bob, 3, cyd, s.side.commits[24]), split(bob, 3, dan, s.side.commits[24]), split(bob, 3, dan, s.side.commits[24]), pick(cyd, 3, 1), pick(cyd, 3, 1))
	add(12, split(bob, 3, cyd, s.side.commits[32]), pick(cyd, 3, 1), split(bob, 3, cyd, s.side.commits[36]), pick(cyd, 3, 1), split(bob, 3, cyd, s.side.commits[38]), pick(cyd, 3, 1), split(bob, 3, cyd, s.side.commits[39]), pick(cyd, 3, 1), split(bob, 3, cyd, s.side.commits[40]), pick(cyd, 3, 1))
	add(22, expire(ann, 3, dan), prove(cyd, 3, s.side.shown(39, 40)))
	add(23, expire(ann, 3, dan), expire(ann, 3, dan), confirm(ann))
	add(22+1, prove(cyd, 3, nil), expire(oda, 3, cyd), expire(dan, 3, ann))
	add(107, confirm(dan), s.side.claiming(oda, 0, s.side.commits[8].Leaves), s.side.claiming(oda, 1, s.side.commits[8].Leaves), s.side.claiming(oda, 0, s.side.commits[8].Leaves))
	add(107, post(ann, s.side.commits[30]), post(bob, s.side.lie(40)), fight(cyd, 5), fight(cyd, 6), split(bob, 6, cyd, s.side.lie(35)), pick(cyd, 6, 0), split(bob, 6, cyd, s.side.commits[32]), pick(cyd, 6, 1), split(bob, 6, cyd, s.side.commits[33]), pick(cyd, 6, 1), split(bob, 6, cyd, s.side.commits[34]), pick(cyd, 6, 1))
	add(108, split(ann, 5, cyd, s.side.commits[19]), prove(cyd, 6, s.side.shown(33, 34)), prove(cyd, 6, s.side.shown(34, 35)), deposit(dan, 2, dan, of(3), 100))
	add(119, expire(bob, 5, cyd), api.Op{Kind: 14}, api.Op{Kind: 4, By: ann, Body: make([]byte, 4097)}, api.Op{Kind: 6, Gas: 1, Body: []byte{1, 2}, Path: []api.Digest{{3}}})
	add(207, confirm(cyd), s.side.claiming(ann, 2, s.side.commits[30].Leaves), s.side.claiming(ann, 25, s.side.commits[30].Leaves), s.side.claiming(ann, 1, s.side.commits[8].Leaves))
	return s
})

// toldAll has the story told to a chain.
func toldAll(t testing.TB) both {
	t.Helper()
	return newBoth(t, usual()).ahead(t, theStory().blocks...)
}
