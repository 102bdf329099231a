package guard

import (
	"fmt"
	"math/rand"
	"reflect"
	"slices"
	"testing"

	"causeway/api"
	"causeway/contract"
	"causeway/inbox"
	"causeway/node"
)

// steps is how many a script has: a tenth of them where little time is given.
func steps(n int) int {
	if testing.Short() {
		return max(1, n/10)
	}
	return n
}

// drawer draws what people do; truth is what follows from the whole inbox.
type drawer struct {
	*rand.Rand
	truth  *side
	people []api.Address
}

func newDrawer(seed int, people ...api.Address) *drawer {
	return &drawer{rand.New(rand.NewSource(int64(seed))), newSide(zed), people}
}

func (r *drawer) person() api.Address { return r.people[r.Intn(len(r.people))] }

func (r *drawer) config() api.Config {
	return api.Config{Owner: oda, Admin: zed, Window: []int{4, 30, 200, 5000}[r.Intn(4)], Turn: []int{2, 8, 40, 300}[r.Intn(4)], Bond: []api.Wide{of(7), {}}[r.Intn(2)]}
}

// entry draws an operation by which an entry comes.
func (r *drawer) entry() api.Op {
	who, to, k := r.person(), r.person(), uint64(1+r.Intn(5))
	switch r.Intn(8) {
	case 0:
		return deposit(who, r.Intn(2), to, 20+k, 98+r.Intn(9))
	case 1:
		return move(who, r.Intn(2), to, k)
	case 2:
		return send(who, byte(r.Intn(256)), byte(r.Intn(256)))
	case 3:
		return written(who, api.Letter{Kind: api.LetterRetry + r.Intn(2), Number: 1 + r.Intn(5)})
	case 4:
		return written(zed, api.Letter{Kind: api.LetterToken, Token: r.Intn(3)})
	}
	return burn(who, r.Intn(2), to, k)
}

// commit is right, or a lie, or of no entries that there are.
func (r *drawer) commit(count int) api.Commit {
	if count >= len(r.truth.commits) || count < 0 {
		return api.Commit{Count: max(0, count), Leaves: 999}
	}
	if r.Intn(2) == 0 {
		l := r.truth.lies(count)
		return l[r.Intn(len(l))]
	}
	return r.truth.commits[count]
}

func (r *drawer) post(c *contract.Contract) api.Op {
	top := c.Top().Count
	left := c.Inbox().Len() - top
	if left > 32 && r.Intn(3) == 0 { // too many for one witness
		return post(r.person(), r.commit(top+33+r.Intn(left-32)))
	}
	if r.Intn(2) == 0 {
		left = min(left, 4)
	}
	return post(r.person(), r.commit(top+1+r.Intn(2+max(0, left-1))))
}

// number is mostly that of a pending one.
func (r *drawer) number(c *contract.Contract) int {
	if l := c.Pending(); len(l) > 0 && r.Intn(10) > 0 {
		return l[r.Intn(len(l))].Number
	}
	return 1 + r.Intn(9)
}

// shown is mostly a witness of these entries, now and then of others, or spoiled.
func (r *drawer) shown(from, to int) []byte {
	if r.Intn(8) == 0 {
		from, to = from-r.Intn(2), to+r.Intn(2)
	}
	if from < 0 || from >= to || to > from+32 || to >= len(r.truth.commits) {
		return []byte{87}
	}
	b := r.truth.shown(from, to)
	if r.Intn(4) == 0 {
		b[r.Intn(len(b))] ^= 1 << r.Intn(8)
	}
	return b
}

func (r *drawer) challenge(c *contract.Contract) api.Op {
	number, from := r.number(c), c.Confirmed().Count
	for _, p := range c.Pending() {
		if p.Number == number {
			return challenge(r.person(), number, r.shown(from, p.Commit.Count))
		}
		from = p.Commit.Count
	}
	return challenge(r.person(), number, nil)
}

// move is mostly the one that an open duel waits for. Who is not among the people does not move.
func (r *drawer) move(c *contract.Contract) api.Op {
	l := c.Duels()
	if len(l) == 0 {
		return fight(r.person(), r.number(c))
	}
	d := l[r.Intn(len(l))]
	defender, challenger := r.instead(d.Defender), r.instead(d.Challenger)
	switch state := d.State; {
	case r.Intn(8) == 0:
		return expire(r.person(), d.Number, d.Challenger)
	case state == 1:
		return split(defender, d.Number, d.Challenger, r.commit((d.Low.Count+d.High.Count)/2))
	case state == 2:
		return pick(challenger, d.Number, r.Intn(2))
	}
	return prove(challenger, d.Number, r.shown(d.Low.Count, d.Low.Count+1))
}

// instead is somebody, or one of the people, if that one is none of them.
func (r *drawer) instead(who api.Address) api.Address {
	if slices.Contains(r.people, who) {
		return who
	}
	return r.person()
}

// op draws what somebody does.
func (r *drawer) op(c *contract.Contract) api.Op {
	switch k := r.Intn(100); {
	case k < 18:
		return r.entry()
	case k < 36:
		return r.post(c)
	case k < 41:
		return confirm(r.person())
	case k < 47:
		return r.challenge(c)
	case k < 57:
		return fight(r.person(), r.number(c))
	case k < 60:
		return expire(r.person(), r.number(c), r.person())
	}
	return r.move(c)
}

// time is mostly at or a little behind the contract's, now and then about an end of something.
func (r *drawer) time(c *contract.Contract) int {
	pending, duels, now := c.Pending(), c.Duels(), c.Now()
	switch k := r.Intn(12); {
	case k < 1 && len(pending) > 0:
		return max(now, pending[r.Intn(len(pending))].Deadline+r.Intn(3)-1)
	case k < 3 && len(duels) > 0:
		return max(now, duels[r.Intn(len(duels))].Until+r.Intn(3)-1)
	}
	return now + r.Intn(3)/2
}

// script draws operations over a contract, while a node follows, lags or goes astray.
type script struct {
	*drawer
	world
}

func newScript(t testing.TB, seed int) *script {
	r := &script{drawer: newDrawer(seed, ann, bob, cyd, dan, wes)}
	r.begin(t)
	return r
}

func (r *script) begin(t testing.TB) {
	r.truth = newSide(zed)
	r.world = world{c: sure(contract.New(r.config())), n: node.New(zed), side: newSide(zed)}
	r.do(t, 1, list(0), list(1)).do(t, 1, lines(7+r.Intn(90))...)
	r.truth.follow(r.c.Inbox())
	if r.Intn(4) > 0 {
		r.follow(t)
	}
}

// someBox is a box that a node may have followed instead: shorter, or another one from somewhere on.
func (r *script) someBox() *inbox.Box {
	b, l := inbox.New(), inBox(r.c.Inbox())
	k := len(l) - r.Intn(1+min(len(l), 12))
	for _, e := range l[:k] {
		sure(b.Add(e))
	}
	if r.Intn(2) == 0 {
		for range r.Intn(12) {
			sure(b.Add(api.Entry{Kind: api.EntryCall, Sender: r.person(), Time: r.c.Now(), Body: []byte{byte(r.Intn(256))}}))
		}
	}
	return b
}

// obey lets somebody do what is told.
func (r *script) obey() {
	me, now := r.person(), r.c.Now()
	for _, o := range append(sure(Watch(r.n, r.c, me, now, 2)), sure(Defend(r.n, r.c, me, now))...) {
		r.c.Do(now, o)
	}
}

// step does something in the contract, or lets the node follow.
func (r *script) step(t testing.TB, seen map[string]int) {
	switch k := r.Intn(20); {
	case k < 3:
		r.follow(t)
	case k < 4:
		r.lead(t, r.someBox())
	case k < 6:
		r.obey()
	default:
		o := r.op(r.c)
		x := r.c.Do(r.time(r.c), o)
		seen[fmt.Sprint("op ", o.Kind, " ", x.Code == 0)]++
		r.truth.follow(r.c.Inbox())
	}
	if r.c.Inbox().Len() > 150 {
		r.begin(t)
	}
}

// ask holds all calls against the words, for somebody at some time, and lets what is told be done.
func (r *script) ask(t testing.TB, what string, seen map[string]int) {
	me, now := r.person(), r.time(r.c)
	if l := r.c.Duels(); len(l) > 0 && r.Intn(2) == 0 {
		me = l[r.Intn(len(l))].Challenger
	}
	if r.Intn(10) == 0 {
		now = []int{0, late, r.c.Now() / 2}[r.Intn(3)]
	}
	r.wantWords(t, what, me, now, 1+r.Intn(16))
	for _, p := range r.c.Pending() {
		seen[fmt.Sprintf("known %v, right %v", r.side.known(r.c, p.Commit), r.side.right(r.c, p.Commit))]++
	}
	_, e := Assert(r.n, r.c)
	seen[fmt.Sprint("Assert ", int(e))]++
	for _, o := range sure(Watch(r.n, r.c, me, now, 2)) {
		seen[fmt.Sprint("watch ", o.Kind)]++
	}
	for _, o := range sure(Defend(r.n, r.c, me, now)) {
		seen[fmt.Sprint("defend ", o.Kind)]++
	}
	r.wantPosted(t, what)
	if now >= r.c.Now() {
		r.wantDone(t, what, me, now)
	}
}

// wantDone lets what is told be done at that time: P21.7 and P21.8.
func (w *world) wantDone(t testing.TB, what string, me api.Address, now int) {
	t.Helper()
	ops := sure(Watch(w.n, w.c, me, now, 3))
	c, peace := w.c.Copy(), true
	for _, p := range c.Pending() {
		peace = peace && w.side.right(c, p.Commit)
	}
	for _, d := range c.Duels() {
		peace = peace && now <= d.Until
	}
	if peace && len(ops) > 0 {
		t.Errorf("%s: in peace Watch tells %s", what, textOf(ops...))
	}
	for i, o := range ops {
		if i == 0 && o.Kind != 12 {
			w.wantStroke(t, what, now, o)
		}
		there := slices.ContainsFunc(c.Duels(), func(d api.Duel) bool { return d.Number == o.Number && d.Challenger == o.To })
		r := c.Do(now, o)
		if o.Kind == 12 && (r.Code == 0) != there || o.Kind == 12 && !there && r.Code != 186 {
			t.Errorf("%s: %s at %d: %d", what, textOf(o), now, int(r.Code))
		}
	}
	c = w.c.Copy()
	for _, o := range sure(Defend(w.n, w.c, me, now)) {
		if r := c.Do(now, o); r.Code != 0 {
			t.Errorf("%s: %s at %d: %d", what, textOf(o), now, int(r.Code))
		}
	}
}

// wantStroke lets a stroke be done that does not end a duel: what it is against is wrong.
func (w *world) wantStroke(t testing.TB, what string, now int, o api.Op) {
	t.Helper()
	for _, p := range w.c.Pending() {
		if p.Number == o.Number && !w.side.wrong(w.c, p.Commit) {
			t.Errorf("%s: %s, and that one is not wrong", what, textOf(o))
		}
	}
	c := w.c.Copy()
	r := c.Do(now, o)
	if r.Code != 0 && o.Kind != 11 { // who picked wrongly can not prove
		t.Errorf("%s: %s at %d: %d", what, textOf(o), now, int(r.Code))
	}
	for _, p := range c.Pending() {
		if r.Code == 0 && (o.Kind == 7 || o.Kind == 11) && p.Number >= o.Number {
			t.Errorf("%s: behind %s assertion %d is pending still", what, textOf(o), p.Number)
		}
	}
}

// Long scripts of all operations, while a node follows, lags or goes astray: the four calls against the words, and what comes of what is told.
func TestP21_3_LongScripts(t *testing.T) {
	seen := map[string]int{}
	for seed := range 8 {
		r := newScript(t, seed)
		for i := range steps(500) {
			what := fmt.Sprint("script ", seed, ", step ", i)
			r.step(t, seen)
			r.ask(t, what, seen)
			if i%25 == 0 {
				r.stays(t, what, func() { r.ask(t, what, seen) })
			}
			if t.Failed() {
				return
			}
		}
	}
	wanted := []string{"known true, right true", "known true, right false", "known false, right false", "Assert 0", "Assert 211", "Assert 212", "defend 9", "defend 12"}
	for kind := 7; kind <= 12; kind++ {
		if kind != 9 {
			wanted = append(wanted, fmt.Sprint("watch ", kind))
		}
	}
	for kind := 5; kind <= 12; kind++ {
		wanted = append(wanted, fmt.Sprint("op ", kind, " true"), fmt.Sprint("op ", kind, " false"))
	}
	for _, x := range wanted {
		if seen[x] < 5 && !testing.Short() {
			t.Errorf("%s came %d times", x, seen[x])
		}
	}
}

// By 1 to 16 workers, and again and again, all is answered alike.
func TestP21_5_W11_Workers(t *testing.T) {
	for seed := range steps(20) {
		r := newScript(t, 300+seed)
		for range 60 {
			r.step(t, map[string]int{})
		}
		me, now := r.person(), r.time(r.c)
		verdicts, ops := sure(Judge(r.n, r.c, 1)), sure(Watch(r.n, r.c, me, now, 1))
		for workers := 1; workers <= 16; workers++ {
			for range 3 {
				if got, e := Judge(r.n, r.c, workers); e != 0 || !slices.Equal(got, verdicts) {
					t.Errorf("seed %d: Judge by %d: %v, %d, by one %v", seed, workers, got, int(e), verdicts)
				}
				if got, e := Watch(r.n, r.c, me, now, workers); e != 0 || !sameOps(got, ops) {
					t.Errorf("seed %d: Watch by %d: %s, %d, by one %s", seed, workers, textOf(got...), int(e), textOf(ops...))
				}
			}
		}
	}
}

// What is answered hangs on what the node and the contract have, not on how they came to it.
func TestR5_NoPast(t *testing.T) {
	for seed := range steps(20) {
		r := newScript(t, 600+seed)
		for range 60 {
			r.step(t, map[string]int{})
		}
		b := inbox.New()
		for _, e := range r.side.entries {
			sure(b.Add(e))
		}
		fresh := (&world{c: r.c.Copy(), n: node.New(zed), side: newSide(zed)}).lead(t, b)
		for _, me := range r.people {
			now := r.time(r.c)
			r.wantWords(t, "all the way", me, now, 2)
			fresh.wantWords(t, "at one stroke", me, now, 3)
			if a, b := sure(Watch(r.n, r.c, me, now, 2)), sure(Watch(fresh.n, fresh.c, me, now, 5)); !reflect.DeepEqual(a, b) {
				t.Errorf("seed %d: %s, and at one stroke %s", seed, textOf(a...), textOf(b...))
			}
		}
	}
}

func FuzzAgainstTheWords(f *testing.F) {
	f.Add([]byte("\x00\x01\x02\x80\x03\x04\x40\x01\x00\x81\x05\x06\xc0\x00\x00\x00\x07\x08"))
	f.Add([]byte("\x03\x11\x02\x83\x13\x24\x02\x21\x40\x82\x03\x00\x43\x03\x00\x83\x07\x08\x40\x08\x00\x80\x05\x05\xc1\x01\x01"))
	f.Add([]byte("\x00\xff\x00\x01\xfe\x01\x80\xfd\x02\x81\xfc\x03\x80\xfb\x04\x81\xfa\x05\x41\xf9\x06\x81\xf8\x07\xe0\xf7\x08\x40\x08\x00\x80\x00\x00"))
	f.Fuzz(func(t *testing.T, text []byte) {
		r := newScript(t, len(text))
		for i := 0; len(text) >= 3 && i < 60; i, text = i+1, text[3:] {
			x, what := text[:3], fmt.Sprint("step ", i)
			r.Rand = rand.New(rand.NewSource(int64(x[1])<<8 | int64(x[2])))
			switch x[0] >> 6 {
			case 0:
				r.step(t, map[string]int{})
			case 1:
				r.c.Do(r.c.Now()+int(x[0]&63), r.move(r.c))
			case 2:
				r.c.Do(r.c.Now(), r.post(r.c))
				r.c.Do(r.c.Now(), fight(r.person(), r.number(r.c)))
			case 3:
				for range 1 + x[0]&7 {
					for _, o := range sure(Watch(r.n, r.c, wes, r.c.Now(), 1+int(x[1]&15))) {
						r.c.Do(r.c.Now(), o)
					}
				}
			}
			r.truth.follow(r.c.Inbox())
			r.ask(t, what, map[string]int{})
		}
	})
}
