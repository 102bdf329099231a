package bridge

import (
	"fmt"
	"slices"
	"testing"

	"causeway/api"
	"causeway/ladder"
	"causeway/letter"
	"causeway/outbox"
	"causeway/witness"
)

const (
	full = 1 << 40
	late = 1 << 62
	last = 1<<63 - 1
	mega = 1 << 22 // bytes: that an order has at most, and a witness
)

func someone(n byte) api.Address { return api.Address{0: n, 7: n ^ 255, 19: n} }

// The owner of the contract, the admin of the ledger, a watcher, and others.
var (
	oda = someone(101)
	zed = someone(102)
	wes = someone(103)
	ann = someone(0)
	bob = someone(1)
	cyd = someone(2)
	dan = someone(3)
)

func of(n uint64) api.Wide { return api.Wide{n} }

// most is the greatest amount.
func most() api.Wide { return api.Wide{1<<64 - 1, 1<<64 - 1, 1<<64 - 1, 1<<64 - 1} }

func usual() api.Config {
	return api.Config{Owner: oda, Admin: zed, Window: 100, Turn: 10, Bond: of(5)}
}

func sure[T any](value T, e api.Errno) T {
	if e != api.OK {
		panic(e)
	}
	return value
}

// steps is how many a script has: a tenth of them where little time is given.
func steps(n int) int {
	if testing.Short() {
		return max(1, n/10)
	}
	return n
}

// Operations.

func list(token int) api.Op { return api.Op{Kind: 1, By: oda, Token: token} }

func stop(token, index int) api.Op { return api.Op{Kind: 2, By: oda, Token: token, Index: index} }

func deposit(by api.Address, token int, to api.Address, amount api.Wide, gas int) api.Op {
	return api.Op{Kind: 3, By: by, Token: token, To: to, Amount: amount, Gas: gas}
}

func send(by api.Address, body ...byte) api.Op { return api.Op{Kind: 4, By: by, Body: body} }

func written(by api.Address, l api.Letter) api.Op { return send(by, sure(letter.Bytes(l))...) }

func token(number int) api.Op {
	return written(zed, api.Letter{Kind: api.LetterToken, Token: number})
}

func burn(by api.Address, token int, to api.Address, amount uint64) api.Op {
	return written(by, api.Letter{Kind: api.LetterBurn, Token: token, To: to, Amount: of(amount)})
}

func move(by api.Address, token int, to api.Address, amount uint64) api.Op {
	return written(by, api.Letter{Kind: api.LetterMove, Token: token, To: to, Amount: of(amount)})
}

func retry(by api.Address, number int) api.Op {
	return written(by, api.Letter{Kind: api.LetterRetry, Number: number})
}

func cancel(by api.Address, number int) api.Op {
	return written(by, api.Letter{Kind: api.LetterCancel, Number: number})
}

func post(by api.Address, c api.Commit) api.Op {
	return api.Op{Kind: 5, By: by, Body: sure(ladder.Bytes(c))}
}

func confirm(by api.Address) api.Op { return api.Op{Kind: 6, By: by} }

func challenge(by api.Address, number int, body []byte) api.Op {
	return api.Op{Kind: 7, By: by, Number: number, Body: body}
}

func fight(by api.Address, number int) api.Op { return api.Op{Kind: 8, By: by, Number: number} }

func split(by api.Address, number int, to api.Address, c api.Commit) api.Op {
	return api.Op{Kind: 9, By: by, Number: number, To: to, Body: sure(ladder.Bytes(c))}
}

func pick(by api.Address, number, index int) api.Op {
	return api.Op{Kind: 10, By: by, Number: number, Index: index}
}

func prove(by api.Address, number int, body []byte) api.Op {
	return api.Op{Kind: 11, By: by, Number: number, Body: body}
}

func expire(by api.Address, number int, to api.Address) api.Op {
	return api.Op{Kind: 12, By: by, Number: number, To: to}
}

func claim(by api.Address, leaf api.Leaf, path ...api.Digest) api.Op {
	return api.Op{Kind: 13, By: by, Body: sure(outbox.Bytes(leaf)), Path: path}
}

// Orders.

func blockAt(time int, ops ...api.Op) api.Order { return api.Order{Kind: 1, Time: time, Ops: ops} }

func cutOf(n int) api.Order { return api.Order{Kind: 2, Count: n} }

func followBy(workers int) api.Order { return api.Order{Kind: 3, Workers: workers} }

func assertAt(time int, by api.Address) api.Order { return api.Order{Kind: 4, Time: time, By: by} }

func watchAt(time int, by api.Address, workers int) api.Order {
	return api.Order{Kind: 5, Time: time, By: by, Workers: workers}
}

func defendAt(time int, by api.Address) api.Order { return api.Order{Kind: 6, Time: time, By: by} }

func claimAt(time int, by api.Address, index int) api.Order {
	return api.Order{Kind: 7, Time: time, By: by, Index: index}
}

func lookAt(index int) api.Order { return api.Order{Kind: 8, Index: index} }

// ready are operations by which tokens 0 and 1 are there on both shores, and bob and cyd have of them: five entries.
func ready() []api.Op {
	return []api.Op{list(0), list(1), token(0), token(1), deposit(ann, 0, bob, of(1e6), 100), deposit(ann, 1, cyd, of(1e6), 100), deposit(dan, 0, dan, of(40), 99)}
}

// letters are so many entries of many kinds, by some of which leaves leave.
func letters(n int) []api.Op {
	var l []api.Op
	for i := range n {
		who, k := someone(byte(i%4)), uint64(1+i%5)
		l = append(l, []api.Op{
			burn(bob, 0, who, k), move(cyd, 1, who, k), send(who, byte(i)), burn(cyd, 1, who, k), deposit(who, i%2, ann, of(k), 97+i%6), cancel(dan, 1+i/8),
		}[i%6])
	}
	return l
}

// both is a bridge, what it is by the words, and what it was told.
type both struct {
	bridge *Bridge
	said   *said
	told   [][]byte
	rows   []row // one a block that is left, by what the bridge answered
}

// row is a block and its results.
type row struct {
	time    int
	ops     []api.Op
	results []api.Result
}

func newBoth(t testing.TB, config api.Config) *both {
	t.Helper()
	b, e := New(headerBytes(config))
	if e != 0 || b == nil {
		t.Fatalf("New: %d", int(e))
	}
	return &both{bridge: b, said: newSaid(config)}
}

// raw tells an order's bytes to both, which must answer the same.
func (x *both) raw(t testing.TB, what string, order []byte) api.Answer {
	t.Helper()
	kept := slices.Clone(order)
	x.told = append(x.told, kept)
	got, wanted := x.bridge.Do(order), x.said.do(kept)
	if !sameAnswer(got, wanted) {
		t.Fatalf("%s: Do(%s):\n%s, not\n%s", what, textOf(kept), textOfAnswer(got), textOfAnswer(wanted))
	}
	if !slices.Equal(order, kept) {
		t.Fatalf("%s: Do(%s) has written into its order", what, textOf(kept))
	}
	x.record(kept, got)
	return got
}

// record keeps the rows of the blocks that are left.
func (x *both) record(order []byte, got api.Answer) {
	o, ok := readWords(order)
	if !ok || got.Code != 0 {
		return
	}
	switch {
	case o.Kind == 1:
		x.rows = append(x.rows, row{o.Time, o.Ops, got.Results})
	case o.Kind == 2:
		x.rows = x.rows[:len(x.rows)-o.Count]
	case len(got.Ops) > 0:
		x.rows = append(x.rows, row{o.Time, got.Ops, got.Results})
	}
}

// do tells an order.
func (x *both) do(t testing.TB, what string, o api.Order) api.Answer {
	t.Helper()
	return x.raw(t, what, orderBytes(o))
}

// ahead tells orders that must not be refused, and neither may be operations that they make.
func (x *both) ahead(t testing.TB, orders ...api.Order) *both {
	t.Helper()
	for _, o := range orders {
		a := x.do(t, "ahead", o)
		if a.Code != 0 || slices.ContainsFunc(a.Results, func(r api.Result) bool { return r.Code != 0 }) {
			t.Fatalf("ahead, %s: %s", textOf(orderBytes(o)), textOfAnswer(a))
		}
	}
	x.wantTold(t, "ahead")
	return x
}

// want wants an order to be done, with operations that come to these Codes, and all to be told rightly behind it.
func (x *both) want(t testing.TB, what string, o api.Order, codes ...int) api.Answer {
	t.Helper()
	a := x.do(t, what, o)
	if a.Code != 0 || len(a.Results) != len(codes) {
		t.Fatalf("%s, %s: %s", what, textOf(orderBytes(o)), textOfAnswer(a))
	}
	for i, code := range codes {
		if int(a.Results[i].Code) != code {
			t.Errorf("%s, %s: result %d is %d, not %d", what, textOf(orderBytes(o)), i, int(a.Results[i].Code), code)
		}
	}
	x.wantTold(t, what)
	return a
}

// refuse wants an order to be refused with this Code, all else zero, and nothing to have changed: P23.6.
func (x *both) refuse(t testing.TB, what string, code int, orders ...api.Order) *both {
	t.Helper()
	for _, o := range orders {
		x.refuseRaw(t, what, code, orderBytes(o))
	}
	return x
}

func (x *both) refuseRaw(t testing.TB, what string, code int, order []byte) {
	t.Helper()
	was := x.tell()
	a := x.raw(t, what, order)
	if int(a.Code) != code || len(a.Results) != 0 || len(a.Ops) != 0 || a.Back != 0 || a.Stage != 0 {
		t.Errorf("%s, %s: %s, not {Code: %d}", what, textOf(order), textOfAnswer(a), code)
	}
	if x.tell() != was {
		t.Errorf("%s, %s is refused, and something has changed", what, textOf(order))
	}
}

// again is a new bridge that is told all that this one was told, the words too.
func (x *both) again(t testing.TB, what string) *both {
	t.Helper()
	y := newBoth(t, x.said.config)
	for _, order := range x.told {
		y.raw(t, what+", again", order)
	}
	return y
}

// probe tells orders of every kind to one that was told the same: each must be answered as the words say.
func (x *both) probe(t testing.TB, what string) {
	t.Helper()
	y, now := x.again(t, what), x.said.time()
	for _, o := range []api.Order{
		lookAt(0), lookAt(1), lookAt(99), claimAt(now, dan, 0), claimAt(now, dan, 1), assertAt(now, ann), watchAt(now, wes, 3), defendAt(now, ann), defendAt(now, bob),
		followBy(2), lookAt(0), lookAt(5), watchAt(now+1, wes, 1), assertAt(now+1, ann), watchAt(now+11, wes, 2), defendAt(now+11, ann),
		blockAt(now+100, confirm(dan), list(9), send(dan, 1)), claimAt(now+100, dan, 0), claimAt(now+100, dan, 0), followBy(1), cutOf(1), lookAt(0), cutOf(9), followBy(4), assertAt(now+100, cyd),
	} {
		y.do(t, what+", probed", o)
	}
	y.wantTold(t, what+", probed")
	z := x.again(t, what)
	z.do(t, what+", cut", cutOf(z.said.lose+1))
	z.do(t, what+", cut", cutOf(z.said.lose))
	z.do(t, what+", cut", followBy(1))
	z.wantTold(t, what+", cut")
}

// tell is all that a bridge has, as a text.
func (x *both) tell() string { return tellParts(x.bridge.chain.Contract(), x.bridge.node, x.blocks()) }

// blocks are those of the chain.
func (x *both) blocks() []api.Block {
	c := x.bridge.chain
	l := []api.Block{{Time: c.Time()}}
	for height := 1; height <= c.Height(); height++ {
		l = append(l, sure(c.Block(height)))
	}
	return l
}

// wantTold holds all that the bridge tells and has against the words.
func (x *both) wantTold(t testing.TB, what string) {
	t.Helper()
	x.wantSums(t, what)
	wanted := append([]api.Block{{Time: x.said.time()}}, x.said.blocks...)
	if got := x.tell(); got != tellParts(x.said.contract, x.said.node, wanted) {
		t.Fatalf("%s: the bridge has something else than by the words", what)
	}
	if e := x.bridge.chain.Cut(x.said.lose + 1); e != 192 {
		t.Fatalf("%s: more blocks can be lost than by the words", what)
	}
}

// wantSums holds Held and Supply against the words: P23.7.
func (x *both) wantSums(t testing.TB, what string) {
	t.Helper()
	for _, token := range []int{-1 << 63, -1, 0, 1, 2, 3, 62, 63, 64, 65, 256, 1 << 32, last} {
		if got, wanted := x.bridge.Held(token), x.said.held(token); got != wanted {
			t.Fatalf("%s: Held(%d) is %v, not %v", what, token, got, wanted)
		}
		if got, wanted := x.bridge.Supply(token), x.said.supply(token); got != wanted {
			t.Fatalf("%s: Supply(%d) is %v, not %v", what, token, got, wanted)
		}
	}
}

// What the node of the words tells, which follows the whole inbox of the contract's.

// truth is a node that has followed all that the contract has.
func (x *both) truth() *said {
	s := *x.said
	s.follow(1)
	return &s
}

// right is the commit behind so many entries of the contract's inbox.
func (x *both) right(t testing.TB, count int) api.Commit {
	t.Helper()
	c, e := x.truth().node.Commit(count)
	if e != 0 {
		t.Fatalf("Commit(%d): %d", count, int(e))
	}
	return c
}

// lie is that commit with another state.
func (x *both) lie(t testing.TB, count int) api.Commit {
	t.Helper()
	c := x.right(t, count)
	c.State[0] ^= 128
	return c
}

// shown is the witness of some entries.
func (x *both) shown(t testing.TB, from, to int) []byte {
	t.Helper()
	w, e := x.truth().node.Witness(from, to)
	if e != 0 {
		t.Fatalf("Witness(%d, %d): %d", from, to, int(e))
	}
	return sure(witness.Bytes(w))
}

func textOf(order []byte) string {
	o, ok := readWords(order)
	if !ok {
		return fmt.Sprintf("%d bytes that are no order: %x", len(order), order[:min(len(order), 60)])
	}
	return fmt.Sprintf("order %d, time %d, count %d, index %d, workers %d, by %x, %s", o.Kind, o.Time, o.Count, o.Index, o.Workers, o.By[:3], textOfOps(o.Ops))
}

func textOfOps(l []api.Op) string {
	text := fmt.Sprint(len(l), " operations")
	for _, o := range l[:min(len(l), 6)] {
		text += fmt.Sprintf("; kind %d by %x, token %d, to %x, gas %d, number %d, index %d, %d bytes, path of %d", o.Kind, o.By[:3], o.Token, o.To[:3], o.Gas, o.Number, o.Index, len(o.Body), len(o.Path))
	}
	return text
}

func textOfAnswer(a api.Answer) string {
	return fmt.Sprintf("{Code %d, results %+v, %s, back %d, stage %d}", int(a.Code), a.Results, textOfOps(a.Ops), a.Back, a.Stage)
}
