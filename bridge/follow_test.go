package bridge

import (
	"fmt"
	"math"
	"math/big"
	"math/rand"
	"slices"
	"testing"

	"causeway/api"
	"causeway/courier"
	"causeway/guard"
)

// script draws orders of every kind, and bytes that are none. Another bridge is told the same by other workers.
type script struct {
	*rand.Rand
	*both
	twin *Bridge
	seen map[string]int
}

func newScript(t testing.TB, seed int, seen map[string]int) *script {
	t.Helper()
	r := &script{Rand: rand.New(rand.NewSource(int64(seed))), seen: seen}
	config := usual()
	config.Window, config.Turn = []int{4, 30, 100, 400}[r.Intn(4)], []int{2, 10, 40}[r.Intn(3)]
	config.Bond = []api.Wide{of(5), {}, {0, 0, 1 << 63}}[r.Intn(3)]
	r.both = newBoth(t, config)
	r.twin, _ = New(headerBytes(config))
	r.tell(t, "begin", orderBytes(blockAt(1, ready()...)))
	r.tell(t, "begin", orderBytes(blockAt(1, letters(r.Intn(80))...)))
	r.tell(t, "begin", orderBytes(followBy(1+r.Intn(16))))
	return r
}

// tell tells an order to all, and holds what follows.
func (r *script) tell(t testing.TB, what string, order []byte) api.Answer {
	t.Helper()
	a := r.raw(t, what, order)
	if b := r.twin.Do(with(order, 1+r.Intn(16))); !sameAnswer(a, b) {
		t.Fatalf("%s: %s: by other workers %s, not %s", what, textOf(order), textOfAnswer(b), textOfAnswer(a))
	}
	o, _ := readWords(order)
	r.seen[fmt.Sprint("order ", o.Kind, " ", int(a.Code))]++
	for i, op := range a.Ops {
		r.seen[fmt.Sprint("made ", o.Kind, " ", op.Kind, " ", int(a.Results[i].Code))]++
	}
	if a.Back > 0 {
		r.seen["back"]++
	}
	r.wantOnce(t, what)
	return a
}

// wantOnce wants no index to be paid twice in the blocks that are left, and of each token what is held to be what was deposited less what was paid: P23.9, W2, W3.
func (x *both) wantOnce(t testing.TB, what string) {
	t.Helper()
	held, paid := map[int]*big.Int{}, map[int]int{}
	of := func(token int) *big.Int {
		if held[token] == nil {
			held[token] = new(big.Int)
		}
		return held[token]
	}
	for _, row := range x.rows {
		for i, o := range row.ops {
			if o.Kind == 3 && row.results[i].Code == 0 {
				of(o.Token).Add(of(o.Token), bigOf(o.Amount))
			}
			for _, p := range row.results[i].Pays {
				if p.Why == 1 {
					of(p.Token).Sub(of(p.Token), bigOf(p.Amount))
					paid[p.Index]++
				}
			}
		}
	}
	for index, n := range paid {
		if n > 1 {
			t.Fatalf("%s: index %d is paid %d times", what, index, n)
		}
	}
	for token := range 64 {
		if got := x.bridge.Held(token); bigOf(got).Cmp(of(token)) != 0 {
			t.Fatalf("%s: of token %d %v are held, not %v", what, token, got, of(token))
		}
	}
}

func (r *script) person() api.Address { return someone(byte(r.Intn(4))) }

// time is mostly the head's or a little behind it, now and then about the end of a window or of a turn, or one that is over.
func (r *script) time() int {
	now, c := r.said.time(), r.said.contract
	switch k := r.Intn(30); {
	case k < 2:
		return max(0, now-1-r.Intn(2))
	case k == 2 && r.Intn(12) == 0:
		return []int{0, late - 500, late + 1, math.MaxInt}[r.Intn(4)]
	case k < 5 && len(c.Pending()) > 0:
		return max(now, c.Pending()[0].Deadline+r.Intn(3)-1)
	case k < 8 && len(c.Duels()) > 0:
		l := c.Duels()
		return max(now, l[r.Intn(len(l))].Until+r.Intn(3)-1)
	}
	return now + r.Intn(3)/2
}

// entry draws an operation by which an entry comes.
func (r *script) entry() api.Op {
	who, to, k := r.person(), r.person(), uint64(1+r.Intn(9))
	switch r.Intn(10) {
	case 0, 1:
		return deposit(who, r.Intn(3), to, of(20+k), 97+r.Intn(6))
	case 2:
		return cancel(who, 1+r.Intn(6))
	case 3:
		return retry(who, 1+r.Intn(6))
	case 4:
		return send(who, byte(r.Intn(256)), byte(r.Intn(256)))
	case 5:
		return token(r.Intn(4))
	case 6, 7:
		return burn(cyd, 1, to, k)
	}
	return burn(bob, r.Intn(2), to, k)
}

// commit is right behind a count, as the node has it, or a lie.
func (r *script) commit(count int) api.Commit {
	c, e := r.said.node.Commit(count)
	if e != 0 {
		return api.Commit{Count: max(0, count), Leaves: r.said.contract.Top().Leaves + r.Intn(2)}
	}
	if r.Intn(3) > 0 {
		return c
	}
	switch r.Intn(4) {
	case 0:
		c.Outbox[r.Intn(32)] ^= 1
	case 1:
		c.Leaves += 1 + r.Intn(2)
	case 2:
		c.State = api.Digest{}
	default:
		c.State[r.Intn(32)] ^= 128
	}
	return c
}

// op draws an operation that people do by themselves.
func (r *script) op() api.Op {
	c := r.said.contract
	l, duels := c.Pending(), c.Duels()
	number := 1 + r.Intn(5)
	if len(l) > 0 {
		number = l[r.Intn(len(l))].Number
	}
	switch k := r.Intn(40); {
	case k < 14:
		return r.entry()
	case k < 21:
		left := c.Inbox().Len() - c.Top().Count
		if left > 32 && r.Intn(2) == 0 { // too many for one witness
			return post(r.person(), r.commit(c.Top().Count+33+r.Intn(left-32)))
		}
		return post(r.person(), r.commit(c.Top().Count+1+r.Intn(1+max(0, []int{left, 3}[r.Intn(2)]))))
	case k < 24:
		return confirm(r.person())
	case k < 27:
		return fight(r.person(), number)
	case k < 33 && len(duels) > 0:
		d := duels[r.Intn(len(duels))]
		switch d.State {
		case 1:
			return split(d.Defender, d.Number, d.Challenger, r.commit((d.Low.Count+d.High.Count)/2))
		case 2:
			return pick(d.Challenger, d.Number, r.Intn(2))
		}
		return prove(d.Challenger, d.Number, []byte{87})
	case k < 34:
		return challenge(r.person(), number, []byte{87, 0, 0, 0})
	case k < 35:
		return expire(r.person(), number, r.person())
	case k < 36:
		return []api.Op{list(2), stop(r.Intn(3), r.Intn(2)), list(r.Intn(65))}[r.Intn(3)]
	case k < 37:
		return whole(1 + r.Intn(13))
	}
	o, e := courier.Claim(r.said.node, c, r.person(), r.Intn(6))
	if e != 0 {
		return api.Op{Kind: 13, By: r.person(), Body: []byte{76}}
	}
	return o
}

func (r *script) block() api.Order {
	var ops []api.Op
	for range r.Intn(6) {
		ops = append(ops, r.op())
	}
	return blockAt(r.time(), ops...)
}

// poster is somebody who has a duel to defend, if there is one.
func (r *script) poster() api.Address {
	if l := r.said.contract.Duels(); len(l) > 0 && r.Intn(4) > 0 {
		return l[r.Intn(len(l))].Defender
	}
	return r.person()
}

// watcher is mostly wes, or somebody whose move it is in a duel.
func (r *script) watcher() api.Address {
	for _, d := range r.said.contract.Duels() {
		if d.State != 1 && r.Intn(3) > 0 {
			return d.Challenger
		}
	}
	return []api.Address{wes, wes, r.person()}[r.Intn(3)]
}

// workers is mostly a number that may be.
func (r *script) workers() int {
	if r.Intn(20) == 0 {
		return []int{0, 17, math.MaxInt}[r.Intn(3)]
	}
	return 1 + r.Intn(16)
}

func (r *script) index() int {
	if r.Intn(12) == 0 {
		return []int{full, math.MaxInt, r.said.node.Leaves()}[r.Intn(3)]
	}
	return r.Intn(1 + r.said.node.Leaves())
}

// order draws one; cuts only if they are wanted.
func (r *script) order(cuts bool) api.Order {
	switch k := r.Intn(100); {
	case k < 34:
		return r.block()
	case k < 44 && cuts:
		n := r.Intn(4)
		if r.Intn(8) == 0 {
			n = []int{8, 9, r.said.lose, r.said.lose + 1, math.MaxInt}[r.Intn(5)]
		}
		return cutOf(n)
	case k < 56:
		return followBy(r.workers())
	case k < 63:
		return assertAt(r.time(), r.person())
	case k < 75:
		return watchAt(r.time(), r.watcher(), r.workers())
	case k < 82:
		return defendAt(r.time(), r.poster())
	case k < 92:
		return claimAt(r.time(), r.person(), r.index())
	}
	return lookAt(r.index())
}

// bytes are mostly those of an order, now and then spoiled, or any.
func (r *script) bytes(cuts bool) []byte {
	b := orderBytes(r.order(cuts))
	switch r.Intn(30) {
	case 0:
		b[r.Intn(len(b))] ^= 1 << r.Intn(8)
	case 1:
		b = b[:r.Intn(len(b))]
	case 2:
		b = make([]byte, r.Intn(60))
		r.Read(b)
		if len(b) > 0 {
			b[0] %= 10
		}
	}
	if o, ok := readWords(b); ok && !cuts && o.Kind == 2 {
		return []byte{2}
	}
	return b
}

// Scripts of orders of every kind, with bytes that are none among them, against the words; by other workers, too.
func TestP23_LongScripts(t *testing.T) {
	t.Parallel()
	seen := map[string]int{}
	for seed := range steps(45) {
		r := newScript(t, seed, seen)
		for i := range 200 {
			what := fmt.Sprint("script ", seed, ", step ", i)
			r.tell(t, what, r.bytes(true))
			if i%4 == 0 {
				r.wantSums(t, what)
			}
			if i%20 == 0 {
				r.wantTold(t, what)
			}
		}
		if seed%3 == 0 {
			r.probe(t, fmt.Sprint("script ", seed))
		}
	}
	for _, what := range []string{
		"order 0 231", "order 1 0", "order 1 191", "order 2 0", "order 2 192", "order 3 0", "order 3 1", "order 4 0", "order 4 191", "order 4 211", "order 4 212", "order 5 0", "order 5 191", "order 5 210",
		"order 6 0", "order 6 191", "order 7 0", "order 7 191", "order 7 220", "order 7 221", "order 7 222", "order 7 223", "order 8 0",
		"made 4 5 0", "made 5 7 0", "made 5 8 0", "made 5 10 0", "made 5 11 0", "made 5 12 0", "made 6 9 0", "made 6 12 0", "made 7 13 0", "back",
	} {
		if seen[what] == 0 && !testing.Short() {
			t.Errorf("%s does not come", what)
		}
	}
}

// A refused order changes nothing, of whatever kind, wherever it comes: P23.6, W4.
func TestP23_6_Refused(t *testing.T) {
	t.Parallel()
	n := 0
	for seed := range steps(15) {
		r := newScript(t, 1000+seed, map[string]int{})
		was := r.both.tell()
		for i := range 120 {
			what, order := fmt.Sprint("script ", seed, ", step ", i), r.bytes(true)
			a, is := r.tell(t, what, order), r.both.tell()
			if a.Code != 0 {
				if is != was {
					t.Fatalf("%s: %s is refused with %d, and something has changed", what, textOf(order), int(a.Code))
				}
				n++
			}
			was = is
		}
	}
	if n < 10*steps(15) {
		t.Errorf("%d are refused", n)
	}
}

// plain is a bridge that is told the blocks alone that are left, those that orders made, too.
func (x *both) plain(t testing.TB, what string) *both {
	t.Helper()
	y := newBoth(t, x.said.config)
	for _, row := range x.rows {
		if a := y.do(t, what, blockAt(row.time, row.ops...)); a.Code != 0 || !slices.EqualFunc(a.Results, row.results, sameResult) {
			t.Fatalf("%s: a block that is left, told by itself: %s", what, textOfAnswer(a))
		}
	}
	return y
}

// Blocks and cuts in any order, by orders of every kind: behind them a bridge is as one that was told those blocks alone that are left, once both follow. P23.11, W10.
func TestP23_11_BlocksLost(t *testing.T) {
	t.Parallel()
	seen := map[string]int{}
	for seed := range steps(50) {
		r := newScript(t, 2000+seed, seen)
		for i := range 10 + r.Intn(100) {
			r.tell(t, fmt.Sprint("script ", seed, ", step ", i), r.bytes(true))
		}
		what := fmt.Sprint("script ", seed)
		y := r.plain(t, what)
		r.tell(t, what, orderBytes(followBy(1+r.Intn(16))))
		if a := y.do(t, what, followBy(1+r.Intn(16))); a.Back != 0 {
			t.Fatalf("%s: %s", what, textOfAnswer(a))
		}
		for i := range 60 {
			what := fmt.Sprint("script ", seed, ", step ", i, " behind it")
			order := r.bytes(false)
			if r.said.lose > 0 && r.Intn(12) == 0 { // as many as both can lose
				order = orderBytes(cutOf(r.Intn(1 + r.said.lose)))
			}
			a, b := r.tell(t, what, order), y.raw(t, what, order)
			if a.Back, b.Back = 0, 0; !sameAnswer(a, b) {
				t.Fatalf("%s: %s: %s, and told what is left alone %s", what, textOf(order), textOfAnswer(a), textOfAnswer(b))
			}
			for token := range 4 {
				if r.bridge.Held(token) != y.bridge.Held(token) || r.bridge.Supply(token) != y.bridge.Supply(token) {
					t.Fatalf("%s: of token %d there is something else", what, token)
				}
			}
		}
		if r.both.tell() != y.tell() {
			t.Fatalf("%s: something else is there", what)
		}
	}
}

// What is lost may come again, or others in its place, however often: the answers are those of the blocks that are left.
func TestP23_11_TheSameAgain(t *testing.T) {
	t.Parallel()
	orders := story(t)
	for seed := range steps(5) {
		r := rand.New(rand.NewSource(int64(seed)))
		x := newBoth(t, usual())
		for _, order := range orders {
			x.raw(t, "story", order)
			n := r.Intn(1 + x.said.lose)
			lost := slices.Clone(x.rows[len(x.rows)-n:])
			x.ahead(t, cutOf(n))
			if r.Intn(2) == 0 {
				x.do(t, "others", blockAt(x.said.time(), send(dan, byte(seed))))
				x.do(t, "others", followBy(1+r.Intn(16)))
				x.ahead(t, cutOf(1))
			}
			for _, row := range lost {
				if a := x.do(t, "again", blockAt(row.time, row.ops...)); !slices.EqualFunc(a.Results, row.results, sameResult) {
					t.Fatalf("again: %s", textOfAnswer(a))
				}
			}
		}
		x.wantTold(t, "the same again")
		x.wantOnce(t, "the same again")
	}
}

// Orders by workers of every number, each bridge by its own: P23.10, W11.
func TestP23_10_Workers(t *testing.T) {
	for seed := range steps(10) {
		r := newScript(t, 3000+seed, map[string]int{})
		var others []*Bridge
		for range 16 {
			b, _ := New(headerBytes(r.said.config))
			for _, order := range r.told {
				b.Do(with(order, 1+len(others)))
			}
			others = append(others, b)
		}
		for i := range 60 {
			what, order := fmt.Sprint("script ", seed, ", step ", i), r.bytes(true)
			a := r.tell(t, what, order)
			for k, b := range others {
				if x := b.Do(with(order, 1+k)); !sameAnswer(x, a) {
					t.Fatalf("%s: %s by %d workers: %s, not %s", what, textOf(order), 1+k, textOfAnswer(x), textOfAnswer(a))
				}
			}
		}
		for k, b := range others {
			if tellParts(b.chain.Contract(), b.node, nil) != tellParts(r.said.contract, r.said.node, nil) {
				t.Fatalf("script %d, by %d workers: something else is there", seed, 1+k)
			}
		}
	}
}

// A watcher's operations, as the guard tells them over what the bridge has, are those that are done: order by order, as long as there is something to do.
func TestP23_5_AsTheGuardSays(t *testing.T) {
	x := embattled(t, false, 2)
	for range 20 {
		now := x.said.time() + 4
		ops, e := guard.Watch(x.bridge.node, x.bridge.chain.Contract(), wes, now, 3)
		if e != 0 {
			t.Fatal(e)
		}
		if a := x.do(t, "watch", watchAt(now, wes, 2)); !slices.EqualFunc(a.Ops, ops, sameOp) {
			t.Fatalf("%s, not %s", textOfAnswer(a), textOfOps(ops))
		}
		x.do(t, "the liar", blockAt(now, split(ann, 1, wes, x.lie(t, (x.low(wes)+x.high(wes))/2))))
	}
}

func (x *both) low(who api.Address) int {
	for _, d := range x.said.contract.Duels() {
		if d.Challenger == who {
			return d.Low.Count
		}
	}
	return 0
}

func (x *both) high(who api.Address) int {
	for _, d := range x.said.contract.Duels() {
		if d.Challenger == who {
			return d.High.Count
		}
	}
	return 0
}

func FuzzAgainstTheWords(f *testing.F) {
	f.Add([]byte("\x00\x01\x02\x20\x03\x04\x40\x01\x00\x61\x05\x06\x80\x00\x00\xa0\x07\x08"))
	f.Add([]byte("\x03\x11\x02\x23\x13\x24\x42\x21\x40\x62\x03\x00\x83\x03\x00\xa3\x07\x08\xc0\x08\x00\xe0\x05\x05\x01\x01\x01"))
	f.Add([]byte("\x00\xff\x00\x21\xfe\x01\x40\xfd\x02\x81\xfc\x03\x80\xfb\x04\xa1\xfa\x05\xc1\xf9\x06\xe1\xf8\x07\xe0\xf7\x08\x40\x08\x00\x80\x00\x00"))
	f.Fuzz(func(t *testing.T, text []byte) {
		r := newScript(t, len(text), map[string]int{})
		for i := 0; len(text) >= 3 && i < 50; i, text = i+1, text[3:] {
			x, what := text[:3], fmt.Sprint("step ", i)
			r.Rand = rand.New(rand.NewSource(int64(x[1])<<8 | int64(x[2])))
			now := r.said.time()
			switch x[0] >> 5 {
			case 0:
				r.tell(t, what, orderBytes(r.block()))
			case 1:
				r.tell(t, what, orderBytes(cutOf(int(x[0]&15))))
			case 2:
				r.tell(t, what, orderBytes(watchAt(now+int(x[0]&31), wes, 1+int(x[1]&15))))
			case 3:
				r.tell(t, what, orderBytes(claimAt(now, r.person(), int(x[0]&31))))
			case 4:
				r.tell(t, what, orderBytes(followBy(int(x[0]&31))))
			case 5:
				r.tell(t, what, append([]byte{x[0] & 15}, x[1:]...))
			case 6:
				r.tell(t, what, orderBytes(blockAt(now+5*int(x[0]&31), post(r.person(), r.commit(r.said.contract.Top().Count+1+int(x[1]&7))), confirm(ann))))
			case 7:
				r.tell(t, what, r.bytes(true))
			}
		}
		r.wantTold(t, "at last")
		y := r.plain(t, "at last")
		r.tell(t, "at last", orderBytes(followBy(3)))
		y.do(t, "at last", followBy(2))
		if r.both.tell() != y.tell() {
			t.Error("told what is left alone it has something else")
		}
	})
}
