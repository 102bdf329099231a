package chain

import (
	"fmt"
	"math"
	"math/rand"
	"reflect"
	"slices"
	"testing"

	"causeway/api"
	"causeway/contract"
)

// steps is how many a script has: a tenth of them where little time is given.
func steps(n int) int {
	if testing.Short() {
		return n / 10
	}
	return n
}

// script draws blocks, cuts and questions over one chain.
type script struct {
	*rand.Rand
	both
	side *side
	lost []api.Block // what the last cut took, while nothing else came
	was  told        // what the contract told ahead of that
}

func newScript(t testing.TB, seed int) *script {
	r := &script{Rand: rand.New(rand.NewSource(int64(seed)))}
	r.begin(t)
	return r
}

// begin takes a new chain, with some tokens and entries.
func (r *script) begin(t testing.TB) {
	config := api.Config{Owner: oda, Admin: zed, Window: []int{4, 30, 200, full}[r.Intn(4)], Turn: []int{2, 8, 40}[r.Intn(3)], Bond: []api.Wide{of(7), {}, {2: 1 << 63}}[r.Intn(3)]}
	r.both, r.side, r.lost = newBoth(t, config), newSide(zed), nil
	r.ahead(t, blockOf(r.Intn(3), list(oda, 0), list(oda, 1), written(zed, api.Letter{Kind: api.LetterToken}), written(zed, api.Letter{Kind: api.LetterToken, Token: 1})))
	var ops []api.Op
	for range 12 {
		ops = append(ops, deposit(r.person(), r.Intn(2), r.person(), of(uint64(20+r.Intn(20))), 99+r.Intn(9)))
	}
	r.ahead(t, blockOf(r.chain.Time(), ops...))
}

func (r *script) person() api.Address { return someone(byte(r.Intn(4))) }

// contract is the one behind the blocks that are left, made anew, and the ledger is what follows from it.
func (r *script) contract() *contract.Contract {
	c, _ := r.said.again(len(r.said.blocks))
	r.side.follow(c.Inbox())
	return c
}

// time is mostly at or a little behind the head's, now and then about an end of something.
func (r *script) time(c *contract.Contract) int {
	last, pending, duels := r.said.time(), c.Pending(), c.Duels()
	switch k := r.Intn(12); {
	case k < 2 && len(pending) > 0:
		return max(last, pending[0].Deadline+r.Intn(3)-1)
	case k < 4 && len(duels) > 0:
		return max(last, duels[r.Intn(len(duels))].Until+r.Intn(3)-1)
	}
	return last + r.Intn(3)/2
}

// block draws one, each operation of which looks at what comes of those ahead of it.
func (r *script) block() api.Block {
	c := r.contract()
	b := blockOf(r.time(c))
	for range []int{0, 1, 1, 2, 3, 5, 9}[r.Intn(7)] {
		o := r.op(c)
		c.Do(b.Time, o)
		r.side.follow(c.Inbox())
		b.Ops = append(b.Ops, o)
	}
	return b
}

// op draws an operation, most of which are done.
func (r *script) op(c *contract.Contract) api.Op {
	switch k := r.Intn(100); {
	case k < 4:
		return list([]api.Address{oda, oda, ann}[r.Intn(3)], r.Intn(5))
	case k < 8:
		return stop([]api.Address{oda, oda, oda, ann}[r.Intn(4)], r.Intn(4), r.Intn(2))
	case k < 16:
		return deposit(r.person(), r.Intn(3), r.person(), of(uint64(r.Intn(30))), 99+r.Intn(9))
	case k < 30:
		return r.letter()
	case k < 44:
		return r.post(c)
	case k < 52:
		return confirm(r.person())
	case k < 58:
		return r.challenge(c)
	case k < 66:
		return fight(r.person(), r.number(c))
	case k < 84:
		return r.move(c)
	case k < 88:
		return expire(r.person(), r.number(c), r.person())
	case k < 97:
		return r.claim(c)
	}
	return api.Op{Kind: r.Intn(18) - 2, By: r.person(), Token: r.Intn(70) - 2, Number: r.Intn(9) - 2, Body: make([]byte, r.Intn(5)), Path: make([]api.Digest, r.Intn(3))}
}

func (r *script) letter() api.Op {
	l := api.Letter{Kind: []int{api.LetterMove, api.LetterBurn, api.LetterBurn, api.LetterBurn}[r.Intn(4)], Token: r.Intn(2), To: r.person(), Amount: of(uint64(1 + r.Intn(5)))}
	if r.Intn(5) == 0 {
		l = api.Letter{Kind: api.LetterCancel - r.Intn(2), Number: 1 + r.Intn(4)}
	}
	return written(r.person(), l)
}

func (r *script) commit(count int) api.Commit {
	if count >= len(r.side.commits) {
		return api.Commit{Count: count, Leaves: 99}
	}
	if r.Intn(3) == 0 {
		return r.side.lie(count)
	}
	return r.side.commits[count]
}

func (r *script) post(c *contract.Contract) api.Op {
	top := c.Top().Count
	return post(r.person(), r.commit(top+r.Intn(2+max(1, min(12, c.Inbox().Len()-top)))))
}

// number is mostly that of a pending one.
func (r *script) number(c *contract.Contract) int {
	if l := c.Pending(); len(l) > 0 && r.Intn(10) > 0 {
		return l[r.Intn(len(l))].Number
	}
	return 1 + r.Intn(9)
}

func (r *script) challenge(c *contract.Contract) api.Op {
	number := r.number(c)
	from := c.Confirmed().Count
	for _, p := range c.Pending() {
		if p.Number == number {
			return challenge(r.person(), number, r.shown(from, p.Commit.Count))
		}
		from = p.Commit.Count
	}
	return challenge(r.person(), number, nil)
}

// shown is mostly a witness of these entries.
func (r *script) shown(from, to int) []byte {
	if from >= to || to > from+32 || to >= len(r.side.commits) {
		return []byte{1}
	}
	b := r.side.shown(from, to)
	if r.Intn(8) == 0 {
		b[len(b)-1] ^= 1
	}
	return b
}

// move is mostly the one that an open duel waits for.
func (r *script) move(c *contract.Contract) api.Op {
	l := c.Duels()
	if len(l) == 0 {
		return pick(r.person(), r.number(c), r.Intn(2))
	}
	d := l[r.Intn(len(l))]
	state := d.State
	switch r.Intn(12) {
	case 0:
		state = 1 + r.Intn(3)
	case 1, 2:
		return expire(r.person(), d.Number, d.Challenger)
	}
	switch state {
	case 1:
		return split(d.Defender, d.Number, d.Challenger, r.commit((d.Low.Count+d.High.Count)/2))
	case 2:
		return pick(d.Challenger, d.Number, r.Intn(2))
	}
	return prove(d.Challenger, d.Number, r.shown(d.Low.Count, d.Low.Count+1))
}

func (r *script) claim(c *contract.Contract) api.Op {
	size := min(c.Confirmed().Leaves, len(r.side.leaves))
	if size == 0 {
		return claim(r.person(), api.Leaf{To: ann, Amount: of(1)})
	}
	return r.side.claiming(r.person(), r.Intn(size), size)
}

// wrong is a block that is refused.
func (r *script) wrong() api.Block {
	b := blockOf(r.said.time(), lists(r.Intn(3))...)
	switch k := r.Intn(6); {
	case k < 2:
		b.Ops = lists(257 + r.Intn(3))
	case k == 2:
		b.Time = []int{late + 1, math.MaxInt, -1, math.MinInt}[r.Intn(4)]
	case k == 3:
		b.Time, b.Ops = -1, lists(257)
	default:
		b.Time--
	}
	return b
}

// lose cuts as many as can be lost, or fewer, or more.
func (r *script) lose(t testing.TB, what string) string {
	n := r.Intn(r.said.lose + 1)
	switch r.Intn(6) {
	case 0:
		n = r.said.lose
	case 1:
		n = []int{-1, r.said.lose + 1, 9, math.MaxInt, math.MinInt, len(r.said.blocks) + 1}[r.Intn(6)]
	}
	lost, was := []api.Block(nil), tell(r.chain.Contract())
	if n > 0 && n <= r.said.lose {
		lost = slices.Clone(r.said.blocks[len(r.said.blocks)-n:])
	}
	e, f := r.chain.Cut(n), r.said.cut(n)
	if e != f {
		t.Errorf("%s, Cut(%d): %d, not %d", what, n, int(e), int(f))
	}
	if e != 0 {
		return "cut 192"
	}
	if n > 0 {
		r.lost, r.was = lost, was
	}
	return fmt.Sprint("cut of ", n)
}

// putBack adds again what the last cut took: the contract is as it was.
func (r *script) putBack(t testing.TB, what string) string {
	if len(r.lost) == 0 {
		return ""
	}
	for _, b := range r.lost {
		r.extend(t, what+", put back", b)
	}
	if got := tell(r.chain.Contract()); !reflect.DeepEqual(got, r.was) {
		t.Errorf("%s: behind what was put back the contract tells %+v, and told %+v", what, got, r.was)
	}
	name := fmt.Sprint("put back ", len(r.lost))
	r.lost = nil
	return name
}

// grow adds a block that is drawn, and writes over what was handed in and what was answered.
func (r *script) grow(t testing.TB, what string, seen map[string]int) {
	b := r.block()
	handed := roomyBlock(b)
	got, e := r.chain.Extend(handed)
	wanted, f := r.said.extend(b)
	if e != f || !sameResults(got, wanted) {
		t.Errorf("%s, Extend of %s: %+v, %d, not %+v, %d", what, textOf(b), got, int(e), wanted, int(f))
	}
	for i, x := range got {
		seen[fmt.Sprint(b.Ops[i].Kind, " ", x.Code == 0)]++
	}
	spoilBlock(handed)
	spoilResults(got)
	r.lost = nil
}

// ask asks for something, and writes over what is answered.
func (r *script) ask() {
	height := r.Intn(r.chain.Height()+3) - 1
	b, _ := r.chain.Block(height)
	l, _ := r.chain.Results(height)
	spoilBlock(b)
	spoilResults(l)
	c := r.chain.Contract()
	for range 4 {
		c.Do(c.Now()+r.Intn(2), r.op(c))
	}
	c.Do(late, send(ann, 1))
}

func (r *script) step(t testing.TB, what string, seen map[string]int) {
	switch k := r.Intn(100); {
	case k < 60:
		r.grow(t, what, seen)
	case k < 67:
		b := r.wrong()
		_, e := r.extend(t, what, b)
		seen[fmt.Sprint("block ", int(e))]++
		if e == 0 {
			r.lost = nil
		}
	case k < 82:
		seen[r.lose(t, what)]++
	case k < 92:
		seen[r.putBack(t, what)]++
	default:
		r.ask()
	}
	if len(r.said.blocks) > 50 {
		r.begin(t)
	}
}

// Long scripts of blocks, cuts and questions, against a contract that is given anew the operations of the blocks that are left.
func TestP19_6_LongScripts(t *testing.T) {
	seen := map[string]int{}
	for seed := range 6 {
		r := newScript(t, seed)
		for i := range steps(1000) {
			what := fmt.Sprint("script ", seed, ", step ", i)
			r.step(t, what, seen)
			if i%3 == 0 {
				r.wantTold(t, what)
			}
			if t.Failed() {
				return
			}
		}
	}
	wanted := []string{"block 190", "block 191", "cut 192"}
	for n := range 9 {
		wanted = append(wanted, fmt.Sprint("cut of ", n))
	}
	for n := 1; n <= 8; n++ {
		wanted = append(wanted, fmt.Sprint("put back ", n))
	}
	for kind := 1; kind <= 13; kind++ {
		wanted = append(wanted, fmt.Sprint(kind, " true"), fmt.Sprint(kind, " false"))
	}
	for _, x := range wanted {
		if seen[x] < 5 && !testing.Short() {
			t.Errorf("%s came %d times", x, seen[x])
		}
	}
}

// Two roads to the same blocks: the one with detours that were cut, the other without. All further blocks are answered alike.
func TestP19_6_NoPast(t *testing.T) {
	for seed := range steps(60) {
		r := newScript(t, 700+seed)
		for i := range 25 {
			r.grow(t, fmt.Sprint("seed ", seed, ", block ", i), map[string]int{})
			if i%4 == 3 {
				r.lose(t, "a detour")
			}
		}
		straight := newBoth(t, r.said.config).ahead(t, r.said.blocks...)
		if !reflect.DeepEqual(tell(straight.chain.Contract()), tell(r.chain.Contract())) {
			t.Fatalf("seed %d: the contracts tell something else", seed)
		}
		for range 12 {
			b := r.block()
			r.extend(t, "on", b)
			straight.extend(t, "on", b)
		}
		r.wantTold(t, "with detours")
		straight.wantTold(t, "without")
		if t.Failed() {
			return
		}
	}
}

// What is asked in between turns no answer.
func TestR5_AskedOrNot(t *testing.T) {
	for seed := range steps(20) {
		r := newScript(t, 900+seed)
		silent := newBoth(t, r.said.config).ahead(t, r.said.blocks...)
		for range 30 {
			r.ask()
			b := r.block()
			r.extend(t, "asked", b)
			silent.extend(t, "not asked", b)
			r.ask()
			if n := r.Intn(12); n <= r.said.lose && n < 3 {
				r.cut(t, "asked", n, 0)
				silent.cut(t, "not asked", n, 0)
			}
		}
		if !reflect.DeepEqual(tell(silent.chain.Contract()), tell(r.chain.Contract())) {
			t.Fatalf("seed %d: the contracts tell something else", seed)
		}
	}
}

// W2 and W3 on each row of blocks: no index is paid twice, and what is held is what was deposited less what was paid.
func TestP19_6_OnceAndHeld(t *testing.T) {
	for seed := range steps(40) {
		r := newScript(t, 1200+seed)
		for i := range 40 {
			r.step(t, fmt.Sprint("seed ", seed, ", step ", i), map[string]int{})
		}
		paid, held := map[int]int{}, map[int]uint64{}
		for height := 1; height <= r.chain.Height(); height++ {
			b, _ := r.chain.Block(height)
			l, _ := r.chain.Results(height)
			for i, x := range l {
				if x.Code == 0 && b.Ops[i].Kind == 3 {
					held[b.Ops[i].Token] += b.Ops[i].Amount[0]
				}
				for _, p := range x.Pays {
					if p.Why == 1 {
						held[p.Token] -= p.Amount[0]
						paid[p.Index]++
					}
				}
			}
		}
		c := r.chain.Contract()
		for token := range 5 {
			if c.Held(token) != of(held[token]) {
				t.Errorf("seed %d: of token %d %v are held, not %d", seed, token, c.Held(token), held[token])
			}
		}
		for index, times := range paid {
			if times != 1 || !c.Paid(index) {
				t.Errorf("seed %d: index %d is paid %d times", seed, index, times)
			}
		}
	}
}

func FuzzAgainstTheWords(f *testing.F) {
	f.Add([]byte("\x00\x01\x02\x00\x03\x04\x40\x01\x00\x00\x05\x06\x80\x00\x00\x00\x07\x08"))
	f.Add([]byte("\x01\x11\x02\x02\x13\x24\x03\x21\x40\x41\x03\x00\x80\x03\x00\xc0\x07\x08\x43\x08\x00\x05\x05\x05"))
	f.Add([]byte("\x05\xff\x00\x05\xfe\x01\x05\xfd\x02\x05\xfc\x03\x05\xfb\x04\x05\xfa\x05\x05\xf9\x06\x05\xf8\x07\x05\xf7\x08\x40\x08\x00\x80\x00\x00"))
	f.Fuzz(func(t *testing.T, text []byte) {
		r := newScript(t, len(text))
		for i := 0; len(text) >= 3 && i < 40; i, text = i+1, text[3:] {
			x := text[:3]
			what := fmt.Sprint("step ", i)
			r.Rand = rand.New(rand.NewSource(int64(x[1])<<8 | int64(x[2])))
			switch x[0] >> 6 {
			case 0:
				for range 1 + x[0]&3 {
					r.grow(t, what, map[string]int{})
				}
			case 1:
				n := int(int8(x[1])) % 11
				if e, f := r.chain.Cut(n), r.said.cut(n); e != f {
					t.Errorf("%s, Cut(%d): %d, not %d", what, n, int(e), int(f))
				}
				r.lost = nil
			case 2:
				r.lose(t, what)
				r.putBack(t, what)
			case 3:
				r.extend(t, what, blockOf(r.said.time()+int(int8(x[1])), lists(int(x[2])+int(x[0]&63))...))
				r.ask()
				r.lost = nil
			}
			if len(r.said.blocks) > 50 {
				r.begin(t)
			}
		}
		r.wantTold(t, "at last")
	})
}

// What a block costs does not hang on how many there are.
func BenchmarkExtend(b *testing.B) {
	c, _ := New(usual())
	for b.Loop() {
		c.Extend(blockOf(5, send(ann, 1, 2, 3)))
	}
}
