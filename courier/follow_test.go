package courier

import (
	"fmt"
	"maps"
	"math/rand"
	"slices"
	"testing"

	"causeway/api"
	"causeway/contract"
	"causeway/inbox"
	"causeway/node"
)

// steps is how many a script has: a tenth of them where little time is given.
func steps(n int) int {
	if testing.Short() {
		return max(1, n/10)
	}
	return n
}

// script draws what happens on both shores, while the node follows, lags or goes astray.
type script struct {
	*rand.Rand
	world
	truth *side    // what follows from the whole inbox
	liar  *world   // the same contract, by a node that has followed something else
	old   []api.Op // claims that were told once
	seen  map[string]int
}

func newScript(t testing.TB, seed int) *script {
	r := &script{Rand: rand.New(rand.NewSource(int64(seed))), seen: map[string]int{}}
	r.begin(t)
	return r
}

func (r *script) begin(t testing.TB) {
	r.world = world{sure(contract.New(usual())), map[int]api.Pay{}, node.New(zed), newSide(zed)}
	r.truth, r.old = newSide(zed), nil
	r.do(t, 1, list(0), list(1)).do(t, 1, token(0), token(1), deposit(ann, 0, bob, of(uint64(50+r.Intn(100))), 100), deposit(ann, 1, cyd, of(90), 100))
	for range r.Intn(9) {
		r.try(1, r.entry())
	}
	r.truth.follow(r.c.Inbox())
	r.liar = r.world.seen(t, r.Intn(3), token(0), token(1), token(2), deposit(ann, 0, bob, of(5000), 100), deposit(ann, 2, cyd, of(900), 100))
	r.stray(t)
	if r.Intn(4) > 0 {
		r.follow(t)
	}
}

func (r *script) person() api.Address { return someone(byte(r.Intn(4))) }

// entry draws an operation by which an entry comes.
func (r *script) entry() api.Op {
	who, to, k := r.person(), r.person(), uint64(1+r.Intn(9))
	switch r.Intn(10) {
	case 0:
		return deposit(who, r.Intn(3), to, of(20+k), 98+r.Intn(5))
	case 1, 2:
		return cancel(who, 1+r.Intn(4))
	case 3:
		return send(who, byte(r.Intn(256)))
	case 4:
		return written(bob, api.Letter{Kind: api.LetterMany, Parts: []api.Letter{burning(0, to, of(k)), burning(0, who, of(k+1))}})
	case 5:
		return token(r.Intn(3))
	case 6, 7:
		return burn(cyd, 1, to, k)
	}
	return burn(bob, r.Intn(3), to, k)
}

// stray lets the liar's node go on with what is not in the inbox.
func (r *script) stray(t testing.TB) {
	b := inbox.New()
	for _, e := range r.liar.side.entries {
		sure(b.Add(e))
	}
	for range 1 + r.Intn(4) {
		k := r.Intn(2)
		o := burn([]api.Address{bob, cyd}[k], 2*k, r.person(), uint64(1+r.Intn(120)))
		sure(b.Add(api.Entry{Kind: api.EntryCall, Sender: o.By, Time: 1, Body: o.Body}))
	}
	r.liar.lead(t, b)
}

// commit is right, or a lie.
func (r *script) commit() api.Commit {
	top := r.c.Top()
	c := r.truth.commits[min(len(r.truth.commits)-1, top.Count+1+r.Intn(4))]
	if r.Intn(8) > 0 {
		return c
	}
	switch r.Intn(7) {
	case 0:
		return noughts(c)
	case 1:
		return turned(c)
	case 2:
		return leaves(c, c.Leaves+r.Intn(3))
	case 3:
		return leaves(c, top.Leaves)
	}
	return count(r.liar.last(), c.Count)
}

// someBox is a box that a node may have followed instead: shorter, or another one from somewhere on.
func (r *script) someBox() *inbox.Box {
	b, l := inbox.New(), inBox(r.c.Inbox())
	for _, e := range l[:len(l)-r.Intn(1+min(len(l), 12))] {
		sure(b.Add(e))
	}
	for range r.Intn(2) * r.Intn(6) {
		o := burn(bob, 0, r.person(), uint64(1+r.Intn(5)))
		sure(b.Add(api.Entry{Kind: api.EntryCall, Sender: o.By, Time: r.c.Now(), Body: o.Body}))
	}
	return b
}

// someIndex is mostly one of a leaf.
func (r *script) someIndex() int {
	l := r.edges()
	if r.Intn(3) > 0 && len(r.side.leaves) > 0 {
		return r.Intn(len(r.side.leaves))
	}
	return l[r.Intn(len(l))]
}

// bring lets a claim of somebody's be told, and if it is, done: by a node that may be the liar's.
func (r *script) bring(t testing.TB, what string, w *world, index int) {
	t.Helper()
	by, now := r.person(), r.c.Now()+r.Intn(2)*r.Intn(3)
	o, e := Claim(w.n, w.c, by, index)
	r.seen[fmt.Sprint("claim ", int(e))]++
	if wanted, f := w.claim(by, index); !sameOp(o, wanted) || e != f {
		t.Fatalf("%s: Claim(%d): %s, %d, not %s, %d", what, index, textOf(o), int(e), textOf(wanted), int(f))
	}
	if e == 0 {
		x := w.wantClaim(t, what, by, now, index)
		r.seen[fmt.Sprint("done ", int(x.Code))]++
		r.old = append(r.old, o)
	}
}

// again does a claim that was told once, or one that is spoiled: what was paid is not paid again.
func (r *script) again(t testing.TB, what string) {
	if len(r.old) == 0 {
		return
	}
	o, was := r.old[r.Intn(len(r.old))], maps.Clone(r.paid)
	if r.Intn(3) == 0 {
		o.Body = slices.Clone(o.Body)
		o.Body[r.Intn(len(o.Body))] ^= 1 << r.Intn(8)
	}
	x := r.try(r.c.Now(), o)
	r.seen[fmt.Sprint("again ", int(x.Code))]++
	for i, p := range was {
		if r.paid[i] != p {
			t.Fatalf("%s: index %d is paid again: %+v", what, i, r.paid[i])
		}
	}
}

// step lets something happen.
func (r *script) step(t testing.TB, what string) {
	t.Helper()
	switch k := r.Intn(100); {
	case k < 20:
		r.try(r.c.Now(), r.entry())
		r.truth.follow(r.c.Inbox())
	case k < 35:
		x := r.try(r.c.Now(), post(r.person(), r.commit()))
		r.seen[fmt.Sprint("post ", x.Code == 0)]++
	case k < 50:
		now := r.c.Now()
		if l := r.c.Pending(); len(l) > 0 {
			now = max(now, l[0].Deadline-r.Intn(4)/3)
		}
		x := r.try(now, confirm(r.person()))
		r.seen[fmt.Sprint("confirm ", x.Code == 0)]++
	case k < 70:
		r.bring(t, what, &r.world, r.someIndex())
	case k < 74:
		r.stray(t)
		r.bring(t, what, r.liar, r.Intn(1+len(r.liar.side.leaves)))
		for _, index := range sure(Due(r.liar.n, r.c)) {
			r.bring(t, what, r.liar, index)
		}
	case k < 78:
		for _, index := range sure(Due(r.n, r.c)) {
			r.bring(t, what, &r.world, index)
		}
	case k < 82:
		r.again(t, what)
	case k < 84:
		r.try(r.c.Now(), []api.Op{list(2), stop(r.Intn(3), r.Intn(2))}[r.Intn(2)])
	case k < 96:
		r.follow(t)
	default:
		r.lead(t, r.someBox())
	}
}

// ask holds all calls against the words, by both nodes, and wants what follows.
func (r *script) ask(t testing.TB, what string) {
	t.Helper()
	r.wantWords(t, what)
	r.liar.wantWords(t, what+", the liar's")
	r.wantRight(t, what)
	for i := range r.side.leaves {
		r.seen[fmt.Sprint("stage ", r.stage(i))]++
	}
	r.seen[fmt.Sprint("stage ", r.stage(len(r.side.leaves)))]++
}

// wantRight wants P22.5: where what is confirmed is right and executed, all that is not paid is due.
func (r *script) wantRight(t testing.TB, what string) {
	t.Helper()
	c := r.c.Confirmed()
	if c != r.truth.commits[c.Count] || common(r.side.entries, r.truth.entries) < c.Count {
		r.seen["not right"]++
		return
	}
	r.seen["right"]++
	due := sure(Due(r.n, r.c))
	for i := range c.Leaves {
		if _, is := r.paid[i]; is == slices.Contains(due, i) {
			t.Errorf("%s: what is confirmed is right, %d is paid: %v, and due are %v", what, i, is, due)
		}
	}
}

// Scripts over both shores: deposits, burns, cancelled tickets, right and wrong assertions, claims in any order, against the words.
func TestP22_LongScripts(t *testing.T) {
	seen := map[string]int{}
	for seed := range steps(50) {
		r := newScript(t, seed)
		r.seen = seen
		for i := range 150 {
			what := fmt.Sprint("script ", seed, ", step ", i)
			r.step(t, what)
			r.ask(t, what)
			if i%25 == 0 {
				r.stays(t, what, func() { r.ask(t, what) })
			}
			if t.Failed() {
				return
			}
		}
	}
	for _, x := range []string{
		"stage 0", "stage 1", "stage 2", "stage 3", "stage 4", "claim 0", "claim 220", "claim 221", "claim 222", "claim 223",
		"done 0", "done 141", "done 146", "again 147", "again 187", "post true", "confirm true", "confirm false", "right", "not right",
	} {
		if seen[x] < 5 && !testing.Short() {
			t.Errorf("%s came %d times", x, seen[x])
		}
	}
}

func FuzzAgainstTheWords(f *testing.F) {
	f.Add([]byte("\x00\x01\x02\x80\x03\x04\x40\x01\x00\x81\x05\x06\xc0\x00\x00\x00\x07\x08"))
	f.Add([]byte("\x03\x11\x02\x83\x13\x24\x02\x21\x40\x82\x03\x00\x43\x03\x00\x83\x07\x08\x40\x08\x00\x80\x05\x05\xc1\x01\x01"))
	f.Add([]byte("\x00\xff\x00\x01\xfe\x01\x80\xfd\x02\x81\xfc\x03\x80\xfb\x04\x81\xfa\x05\x41\xf9\x06\x81\xf8\x07\xe0\xf7\x08\x40\x08\x00\x80\x00\x00"))
	f.Fuzz(func(t *testing.T, text []byte) {
		r := newScript(t, len(text))
		for i := 0; len(text) >= 3 && i < 60; i, text = i+1, text[3:] {
			x, what := text[:3], fmt.Sprint("step ", i)
			r.Rand = rand.New(rand.NewSource(int64(x[1])<<8 | int64(x[2])))
			switch x[0] >> 6 {
			case 0:
				r.step(t, what)
			case 1:
				r.bring(t, what, &r.world, int(x[0]&63)-2)
			case 2:
				r.try(r.c.Now(), post(ann, r.commit()))
				r.try(r.c.Now()+2*int(x[0]&63), confirm(ann))
			case 3:
				for range 1 + x[0]&7 {
					r.try(r.c.Now(), r.entry())
				}
				if x[0]&32 == 0 {
					r.follow(t)
				}
			}
			r.truth.follow(r.c.Inbox())
			r.ask(t, what)
		}
	})
}
