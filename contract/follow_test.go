package contract

import (
	"fmt"
	"math"
	"math/rand"
	"slices"
	"sync"
	"testing"

	"causeway/api"
)

// steps is how many a script has: a tenth of them where little time is given.
func steps(n int) int {
	if testing.Short() {
		return n / 10
	}
	return n
}

// bases are worlds from which scripts begin, of short and long windows, and of bonds of all sorts.
var bases = sync.OnceValue(func() []world {
	var l []world
	for _, x := range []struct {
		window, turn int
		bond         api.Wide
	}{
		{30, 5, of(7)}, {30, 8, of(0)}, {80, 10, of(7)}, {200, 40, api.Wide{math.MaxUint64, math.MaxUint64, math.MaxUint64}}, {full, full, of(3)},
	} {
		l = append(l, worldOf(api.Config{Owner: oda, Admin: zed, Window: x.window, Turn: x.turn, Bond: x.bond}, 45))
	}
	return l
})

// fakes are leaves of which no ledger knows: tokens 0 to 2 are listed, 3 mostly not; of some more is asked than can be held.
var fakes = sync.OnceValue(func() []api.Leaf {
	var l []api.Leaf
	for i := range 64 {
		f := api.Leaf{Index: i, Entry: i, Token: i % 4, To: someone(byte(i)), Amount: of(uint64(1 + i%7))}
		if i%9 == 8 {
			f.Amount = api.Wide{3: 1}
		}
		l = append(l, f)
	}
	return l
})

// fakeRoots are the roots over the first so many of them.
var fakeRoots = sync.OnceValue(func() []api.Digest {
	book := bookOf(fakes())
	var l []api.Digest
	for size := range 65 {
		root, e := book.Root(size)
		if e != 0 {
			panic(e)
		}
		l = append(l, root)
	}
	return l
})

// script draws operations over some contracts and their copies.
type script struct {
	*rand.Rand
	all []world
}

func newScript(seed int) *script {
	r := &script{Rand: rand.New(rand.NewSource(int64(seed)))}
	for range 3 {
		r.all = append(r.all, r.begun())
	}
	return r
}

func (r *script) begun() world {
	base := bases()[r.Intn(len(bases()))]
	return world{base.copied(), base.side.copied()}
}

// time is mostly at or a little behind the last one, now and then about an end of something, or anything.
func (r *script) time(w world) int {
	now := w.contract.Now()
	switch k := r.Intn(40); {
	case k == 0:
		return []int{math.MinInt, -1, 0, late - w.said.config.Window, late + 1, math.MaxInt}[r.Intn(6)]
	case k == 1 && r.Intn(10) == 0:
		return late - r.Intn(2)
	case k == 2:
		return now - 1
	case k < 6 && len(w.said.of(isPending)) > 0:
		return w.said.of(isPending)[0].Deadline + r.Intn(3) - 1
	case k < 10 && len(w.said.open) > 0:
		return w.said.open[r.Intn(len(w.said.open))].Until + r.Intn(3) - 1
	}
	return now + r.Intn(3)/2
}

func (r *script) person() api.Address {
	return []api.Address{ann, bob, cyd, dan, ann, bob, cyd, dan, oda, zed, {}}[r.Intn(11)]
}

// number is mostly that of a pending one, now and then one that was given or will be, or any.
func (r *script) number(w world) int {
	l := w.said.of(isPending)
	switch k := r.Intn(12); {
	case k == 0:
		return 1 + r.Intn(len(w.said.all)+2)
	case k == 1 && r.Intn(4) == 0:
		return []int{-1, 0, full, full + 1}[r.Intn(4)]
	case len(l) == 0:
		return 1
	case k < 6:
		return l[0].Number
	}
	return l[r.Intn(len(l))].Number
}

// commit is mostly right of its count, or a lie; some lies have leaves of their own.
func (r *script) commit(w world, count int) api.Commit {
	if count < 0 || count >= len(w.side.commits) {
		return api.Commit{Count: max(0, count), Leaves: w.said.top().Leaves}
	}
	top := w.said.top().Leaves
	switch k := r.Intn(8); {
	case k < 4:
		return w.side.commits[count]
	case k < 6 && top <= 64:
		size := top + r.Intn(65-top)
		return api.Commit{Count: count, State: api.Digest{byte(size)}, Outbox: fakeRoots()[size], Leaves: size}
	}
	l := w.side.lies(count)
	return l[r.Intn(len(l))]
}

func (r *script) post(w world) api.Op {
	by, top, most := r.person(), w.said.top().Count, len(w.side.entries)
	count := top + 1 + r.Intn(6)
	switch r.Intn(16) {
	case 0:
		count = top - r.Intn(2)
	case 1:
		count = most + 1
	case 2, 3:
		count = max(top+1, most-r.Intn(3))
	case 4:
		if r.Intn(3) == 0 {
			return api.Op{Kind: 5, By: by, Body: []byte{65, 1, byte(count)}}
		}
	}
	return post(by, r.commit(w, count))
}

// shown is mostly what is recorded of the entries from one number to another, now and then forged, or of others, or no witness at all.
func (r *script) shown(w world, from, to int) []byte {
	if most := len(w.side.entries); r.Intn(10) == 0 || from < 0 || to > most || to <= from || to > from+32 {
		from = r.Intn(most)
		to = from + 1
	}
	seen := w.side.recorded(from, to)
	switch r.Intn(8) {
	case 0:
		l := forged(seen)
		seen = l[r.Intn(len(l))]
	case 1:
		if r.Intn(3) == 0 {
			return witnessBytes(seen)[1:]
		}
	}
	return witnessBytes(seen)
}

func (r *script) challenge(w world) api.Op {
	number := r.number(w)
	p, from, _ := w.said.find(number)
	return challenge(r.person(), number, r.shown(w, from.Count, p.Commit.Count))
}

// move is mostly one that an open duel waits for, mostly by who is to make it.
func (r *script) move(w world) api.Op {
	d := api.Duel{Number: r.number(w), Challenger: r.person(), Defender: r.person(), State: 1 + r.Intn(3)}
	if n := len(w.said.open); n > 0 && r.Intn(10) > 0 {
		d = w.said.open[r.Intn(n)]
	}
	if r.Intn(12) == 0 {
		d.State = 1 + r.Intn(3)
	}
	challenger, defender := d.Challenger, d.Defender
	if r.Intn(12) == 0 {
		challenger, defender = r.person(), r.person()
	}
	switch {
	case r.Intn(12) == 0:
		return expire(r.person(), d.Number, d.Challenger)
	case d.State == 1:
		count := half(d)
		if r.Intn(12) == 0 {
			count++
		}
		o := split(defender, d.Number, challenger, r.commit(w, count))
		if r.Intn(20) == 0 {
			o.Body = o.Body[1:]
		}
		return o
	case d.State == 2:
		return pick(challenger, d.Number, r.Intn(2))
	}
	return prove(challenger, d.Number, r.shown(w, d.Low.Count, d.Low.Count+1))
}

// claim is of a true leaf, or of one that is not, under as many as are confirmed, or others.
func (r *script) claim(w world) api.Op {
	leaves, size := w.side.leaves, w.said.confirmed().Leaves
	if w.said.confirmed().Outbox == fakeRoots()[min(size, 64)] || r.Intn(8) == 0 {
		leaves = fakes()
	}
	if r.Intn(10) == 0 {
		size = 1 + r.Intn(9)
	}
	size = min(size, len(leaves))
	if size == 0 {
		return claim(r.person(), leafBytes(fakes()[0]))
	}
	o := claiming(r.person(), leaves, r.Intn(size), size)
	switch r.Intn(16) {
	case 0:
		o.Body = o.Body[:len(o.Body)-1]
	case 1:
		o.Path = append(o.Path, api.Digest{})
	}
	return o
}

// op draws one. There are so many deposits and letters that there is always something to assert.
func (r *script) op(w world) api.Op {
	switch k := r.Intn(100); {
	case k < 3:
		return list([]api.Address{oda, oda, ann}[r.Intn(3)], r.Intn(5))
	case k < 6:
		return stop([]api.Address{oda, oda, oda, ann}[r.Intn(4)], r.Intn(4), r.Intn(2))
	case k < 8:
		amount := []api.Wide{{}, of(1), {3: 1 << 63}, {math.MaxUint64, math.MaxUint64, math.MaxUint64, math.MaxUint64}}[r.Intn(4)]
		return deposit(r.person(), r.Intn(5), r.person(), amount, r.Intn(200))
	case k < 22:
		return drawn(r.Rand, 99)
	case k < 38:
		return r.post(w)
	case k < 46:
		return confirm(r.person())
	case k < 50:
		return r.challenge(w)
	case k < 60:
		return fight(r.person(), r.number(w))
	case k < 84:
		return r.move(w)
	case k < 90:
		if n := len(w.said.open); n > 0 {
			d := w.said.open[r.Intn(n)]
			return expire(r.person(), d.Number, d.Challenger)
		}
		return expire(r.person(), r.number(w), r.person())
	case k < 98:
		return r.claim(w)
	}
	o := drawn(r.Rand, 99)
	o.Kind = r.Intn(16) - 1
	return o
}

// copy puts a copy of a contract beside the others, or in the place of one; or a new one there, so that not all become old.
func (r *script) copy(w world) {
	next := world{w.copied(), w.side.copied()}
	if r.Intn(3) == 0 {
		next = r.begun()
	}
	if len(r.all) < 6 {
		r.all = append(r.all, next)
	} else {
		r.all[r.Intn(6)] = next
	}
}

// step does one operation, writes over what it answered, and tells it.
func (r *script) step(t testing.TB, what string) (api.Op, api.Result) {
	i := r.Intn(len(r.all))
	w := r.all[i]
	now, o := r.time(w), r.op(w)
	got := w.do(t, what, now, o)
	told := keptResult(got)
	clear(got.Pays[:cap(got.Pays)])
	w.side.follow(w.contract)
	switch {
	case w.contract.Now() > late-1000 || len(w.said.done) > 600:
		r.all[i] = r.begun()
	case r.Intn(30) == 0:
		r.copy(w)
	}
	return o, told
}

// wantSums holds P18.5 and P18.6 against the row of all that was done: each bond went in once, and out once or not yet.
func (w world) wantSums(t testing.TB, what string) {
	t.Helper()
	in, out := map[int]int{}, map[int]int{}
	indices := map[int]bool{}
	for _, d := range w.said.done {
		switch d.op.Kind {
		case 5, 8:
			in[d.result.Number]++
		}
		for _, p := range d.result.Pays {
			switch {
			case p.Why == 1 && indices[p.Index]:
				t.Errorf("%s: index %d is paid twice", what, p.Index)
			case p.Why == 1:
				indices[p.Index] = true
			case p.Token != 0 || p.Amount != w.said.config.Bond:
				t.Errorf("%s: %+v", what, p)
			default:
				out[p.Index]++
			}
		}
	}
	open := map[int]int{}
	for _, p := range w.contract.Pending() {
		open[p.Number] = 1 + p.Duels
	}
	for _, d := range w.contract.Duels() {
		if open[d.Number] == 0 {
			t.Errorf("%s: a duel over what is not pending: %+v", what, d)
		}
	}
	for number, n := range in {
		if out[number]+open[number] != n {
			t.Errorf("%s: of assertion %d %d bonds came in, %d went out, and %d are there", what, number, n, out[number], open[number])
		}
		delete(out, number)
	}
	if len(out) != 0 {
		t.Errorf("%s: bonds went out that never came in: %v", what, out)
	}
}

func TestLongScripts(t *testing.T) {
	seen := map[string]int{}
	for seed := range 6 {
		r := newScript(seed)
		for i := range steps(5000) {
			what := fmt.Sprint("script ", seed, ", step ", i)
			o, got := r.step(t, what)
			seen[fmt.Sprint(o.Kind, " ", int(got.Code))]++
			if i%50 == 0 {
				for j, w := range r.all {
					w.wantTold(t, fmt.Sprint(what, ", contract ", j))
					w.wantSums(t, fmt.Sprint(what, ", contract ", j))
				}
			}
			if t.Failed() {
				return
			}
		}
	}
	for _, x := range []string{
		"1 0", "1 142", "1 183", "2 0", "2 141", "2 143", "2 183", "3 0", "3 141", "3 143", "3 144", "3 145", "3 182", "4 0", "4 181", "4 182", "5 0", "5 160", "5 161", "5 162", "5 168", "5 182",
		"6 0", "6 164", "6 165", "6 166", "6 182", "7 0", "7 131", "7 132", "7 164", "7 167", "7 181", "7 184", "7 185", "8 0", "8 164", "8 167", "8 170", "8 172", "8 186", "9 0", "9 160", "9 171", "9 172", "9 173", "9 175", "9 186",
		"10 0", "10 171", "10 173", "10 186", "11 0", "11 131", "11 132", "11 171", "11 173", "11 176", "11 186", "12 0", "12 174", "12 186", "13 0", "13 141", "13 146", "13 147", "13 187", "14 181", "0 181", "-1 181",
	} {
		if seen[x] < 5 && !testing.Short() {
			t.Errorf("%s came %d times", x, seen[x])
		}
	}
}

// What is asked in between, and copies that are made, turn no answer.
func TestR5_SameOpsSameAnswers(t *testing.T) {
	for seed := range 4 {
		r := newScript(100 + seed)
		w := r.begun()
		asked, never := w.contract.Copy(), w.contract.Copy()
		for i := range steps(400) {
			now, o := r.time(w), r.op(w)
			w.contract.Do(now, o)
			w.said.do(now, o)
			w.side.follow(w.contract)
			a := asked.Do(now, o)
			asked.Copy().Do(now+1, send(ann, 1))
			tell(asked)
			if b := never.Do(now, o); !sameResult(a, b) {
				t.Fatalf("seed %d, step %d, %s: %+v and %+v", seed, i, textOf(now, o), a, b)
			}
		}
		wantSame(t, "never asked", never, tell(asked))
		both{never, w.said}.wantTold(t, "never asked")
	}
}

// The contract is what follows from the operations that were done, those alone: a new one that is given them, at their times, is the same.
func TestP18_7_DoneAgain(t *testing.T) {
	for seed := range steps(20) {
		r := newScript(300 + seed)
		w := r.begun()
		for range 300 {
			now, o := r.time(w), r.op(w)
			w.contract.Do(now, o)
			w.said.do(now, o)
			w.side.follow(w.contract)
		}
		again, _ := New(w.said.config)
		for _, d := range w.said.done {
			if got := again.Do(d.now, d.op); !sameResult(got, d.result) {
				t.Fatalf("seed %d, %s: %+v, not %+v", seed, textOf(d.now, d.op), got, d.result)
			}
		}
		wantSame(t, fmt.Sprint("seed ", seed), again, tell(w.contract))
	}
}

// Right assertions alone, by those who defend them: none falls, whatever is done by others who can not be right; at last all is confirmed, and all leaves are paid.
func TestP18_9_RightOnesStayInScripts(t *testing.T) {
	for seed := range steps(10) {
		r := newScript(500 + seed)
		base := bases()[2]
		w := world{base.copied(), base.side.copied()}
		posted := 0
		for i := range 200 {
			now := w.contract.Now() + r.Intn(4)
			ops := []api.Op{drawn(r.Rand, 99)}
			if top := w.contract.Top().Count; i%6 == 0 && top < len(w.side.entries) && len(w.contract.Pending()) < 32 {
				ops = append(ops, post(ann, w.side.commits[min(len(w.side.entries), top+1+r.Intn(4))]))
				posted++
			}
			for _, p := range w.contract.Pending() {
				if now < p.Deadline && r.Intn(4) == 0 {
					_, from, _ := w.said.find(p.Number)
					ops = append(ops, challenge(bob, p.Number, r.shown(w, from.Count, p.Commit.Count)), fight(someone(byte(r.Intn(5))), p.Number))
				}
			}
			for _, d := range w.contract.Duels() {
				ops = append(ops, r.against(w, d, now)...)
			}
			for _, o := range append(ops, confirm(cyd)) {
				got, wanted := w.contract.Do(now, o), w.said.do(now, o)
				if !sameResult(got, wanted) || got.Code == 0 && (o.Kind == 7 || o.Kind == 11) || slices.ContainsFunc(got.Pays, func(p api.Pay) bool { return p.Why == 3 && p.To != ann }) {
					t.Fatalf("seed %d: %s: %+v", seed, textOf(now, o), got)
				}
			}
			w.side.follow(w.contract)
			if w.wantTold(t, "right"); t.Failed() {
				return
			}
		}
		if c := w.contract.Confirmed(); c != w.side.commits[c.Count] || c.Count == 0 || posted < 10 {
			t.Errorf("seed %d: confirmed is %+v, of %d that were posted", seed, c, posted)
		}
		for i := range w.contract.Confirmed().Leaves {
			l := w.side.leaves[i]
			w.want(t, "a leaf", w.contract.Now(), claiming(dan, w.side.leaves, i, w.contract.Confirmed().Leaves), 0, 0, api.Pay{Why: 1, Token: l.Token, To: l.To, Amount: l.Amount, Index: i})
		}
	}
}

// against is what is done in a duel over a right assertion: its poster says what is right, whoever challenges does anything or nothing.
func (r *script) against(w world, d api.Duel, now int) []api.Op {
	switch {
	case now > d.Until:
		return []api.Op{expire(dan, d.Number, d.Challenger)}
	case d.State == 1:
		return []api.Op{split(ann, d.Number, d.Challenger, w.side.commits[half(d)])}
	case d.State == 2 && r.Intn(3) == 0:
		return []api.Op{pick(d.Challenger, d.Number, r.Intn(2))}
	case d.State == 3:
		return []api.Op{prove(d.Challenger, d.Number, r.shown(w, d.Low.Count, d.Low.Count+1))}
	}
	return nil
}

// opOf makes an operation of some bytes: of which kind, by whom, and with what.
func opOf(r *script, w world, x []byte) api.Op {
	people := []api.Address{ann, bob, cyd, dan, oda, zed, {}, ann}
	by, to := people[x[1]&7], people[x[1]>>3&7]
	number := 1 + int(x[2]&7)
	d, there := w.said.duel(number, by)
	if x[0]&15 == 9 || x[0]&15 == 12 {
		d, there = w.said.duel(number, to)
	}
	if !there {
		d = api.Duel{High: api.Commit{Count: 2}}
	}
	count := int(x[3]) % 48
	switch x[0] & 15 {
	case 1:
		return list(by, int(x[2])%66)
	case 2:
		return stop(by, int(x[2])%8, int(x[3])%3)
	case 3:
		return deposit(by, int(x[2])%8, to, of(uint64(x[3])), int(x[3]))
	case 4:
		return send(by, x[2:]...)
	case 5:
		return post(by, r.commit(w, w.said.top().Count+1+count%8))
	case 6:
		return confirm(by)
	case 7:
		p, from, _ := w.said.find(number)
		return challenge(by, number, r.shown(w, from.Count, p.Commit.Count))
	case 8:
		return fight(by, number)
	case 9:
		return split(by, number, to, r.commit(w, half(d)))
	case 10:
		return pick(by, number, int(x[3])&1)
	case 11:
		return prove(by, number, r.shown(w, d.Low.Count, d.Low.Count+1))
	case 12:
		return expire(by, number, to)
	case 13:
		return r.claim(w)
	}
	return api.Op{Kind: int(int8(x[0])), By: by, To: to, Number: number, Body: x}
}

func FuzzAgainstTheWords(f *testing.F) {
	f.Add([]byte("\x05\x00\x00\x04\x00\x08\x01\x00\x00\x00\x09\x08\x00\x00\x01\x0a\x01\x00\x01\x01\x0c\x08\x00\x00\x40"))
	f.Add([]byte("\x05\x01\x00\x03\x00\x07\x02\x00\x00\x00\x05\x00\x00\x02\x00\x06\x00\x00\x00\x5f\x0d\x00\x00\x00\x00"))
	f.Add([]byte("\x01\x04\x05\x00\x01\x03\x09\x05\x07\x02\x02\x04\x05\x01\x03\x0f\x0e\x0d\x0c\xff"))
	f.Fuzz(func(t *testing.T, text []byte) {
		base := bases()[len(text)%len(bases())]
		r := &script{Rand: rand.New(rand.NewSource(int64(len(text))))}
		all := []world{{base.copied(), base.side.copied()}}
		for i := 0; len(text) >= 5 && i < 60; i, text = i+1, text[5:] {
			x := text[:5]
			w := all[int(x[0]>>5)%len(all)]
			if x[0]>>4&1 == 1 && len(all) < 4 {
				all = append(all, world{w.copied(), w.side.copied()})
				continue
			}
			now := w.contract.Now() + int(x[4]&63)
			switch x[4] >> 6 {
			case 2:
				now = w.contract.Now() - 1 + int(x[4]&1)
			case 3:
				now = []int{math.MinInt, -1, 0, late - 1, late, late + 1, math.MaxInt, w.said.config.Window}[x[4]&7]
			}
			w.do(t, fmt.Sprint("step ", i), now, opOf(r, w, x))
			w.side.follow(w.contract)
		}
		for i, w := range all {
			w.wantTold(t, fmt.Sprint("at last, contract ", i))
			w.wantSums(t, fmt.Sprint("at last, contract ", i))
		}
	})
}

func BenchmarkSend(b *testing.B) {
	c := begun(b).contract
	for b.Loop() {
		c.Do(60, send(ann, 1, 2, 3))
	}
}

// Refused and done by turns, in an inbox that grows: neither costs more than by itself.
func BenchmarkRefusedAndSend(b *testing.B) {
	c := begun(b).contract
	for b.Loop() {
		c.Do(60, confirm(ann))
		c.Do(60, send(ann, 1, 2, 3))
	}
}

func BenchmarkManyDuels(b *testing.B) {
	w := begun(b)
	w.contract.Do(60, post(ann, w.side.commits[40]))
	for i := range 10000 {
		w.contract.Do(60, fight(api.Address{1, byte(i), byte(i >> 8)}, 1))
	}
	for b.Loop() {
		c := w.contract.Copy()
		c.Do(60, fight(dan, 1))
	}
}
