package contract

import (
	"bytes"
	"fmt"
	"math"
	"reflect"
	"slices"
	"sync"
	"testing"

	"causeway/api"
)

// telling is all that a contract tells.
type telling struct {
	config         api.Config
	now            int
	held           []api.Wide
	locked         api.Wide
	listed         []bool
	paid           []bool
	confirmed, top api.Commit
	pending        []api.Pending
	duels          []api.Duel
	entries        []api.Entry
	links          []api.Digest
}

func tell(c *Contract) telling {
	x := telling{config: c.Config(), now: c.Now(), locked: c.Locked(), confirmed: c.Confirmed(), top: c.Top(), pending: c.Pending(), duels: c.Duels()}
	for _, n := range slices.Concat(oddNumbers(), indices(70)) {
		there, stopped := c.Listed(n)
		x.held, x.listed, x.paid = append(x.held, c.Held(n)), append(x.listed, there, stopped), append(x.paid, c.Paid(n))
	}
	box := c.Inbox()
	x.entries, _ = box.Entries(0, box.Len())
	for n := range box.Len() + 1 {
		link, _ := box.Link(n)
		x.links = append(x.links, link)
	}
	return x
}

func indices(n int) []int {
	var l []int
	for i := range n {
		l = append(l, i)
	}
	return l
}

func wantSame(t testing.TB, what string, c *Contract, was telling) {
	t.Helper()
	if now := tell(c); !reflect.DeepEqual(now, was) {
		t.Errorf("%s: it tells %+v, and told %+v", what, now, was)
	}
}

// busyWorld has something of everything: what is confirmed, pending, paid, stopped, and duels in all states.
func busyWorld(t testing.TB) world {
	w := begun(t)
	s := w.side
	w.posted(t, 60, ann, s.commits[40])
	w.ahead(t, 160, confirm(bob), claiming(dan, s.leaves, 1, s.commits[40].Leaves), stop(oda, 2, 1))
	w.posted(t, 160, ann, s.lies(45)[0]).posted(t, 160, bob, s.commits[50], s.commits[51])
	w.ahead(t, 160, fight(bob, 2), fight(cyd, 2), fight(dan, 2), fight(dan, 3))
	w.ahead(t, 161, split(ann, 2, cyd, s.commits[42]), split(ann, 2, dan, s.lies(42)[0]), pick(dan, 2, 0), split(ann, 2, dan, s.commits[41]), pick(dan, 2, 1))
	return w
}

// everyOp is operations of every kind, at some time, of which some are done in a busy world, and most are not.
func everyOp(w world) []api.Op {
	s := w.side
	people := []api.Address{ann, bob, cyd, dan, oda, {}}
	l := []api.Op{{}, {Kind: 14}, {Kind: -1}, {Kind: 6, Gas: 1}, {Kind: 4, Body: make([]byte, 4097)}}
	for _, by := range people {
		l = append(l, list(by, 0), list(by, 5), stop(by, 0, 0), stop(by, 0, 1), stop(by, 2, 0), stop(by, 2, 1), stop(by, 5, 1))
		l = append(l, deposit(by, 0, ann, of(5), 100), deposit(by, 0, ann, of(0), 100), deposit(by, 2, ann, of(5), 100), deposit(by, 7, ann, of(5), 100), deposit(by, 1, bob, api.Wide{math.MaxUint64, math.MaxUint64, math.MaxUint64, math.MaxUint64}, 1), send(by, 1, 2))
		for _, n := range []int{40, 51, 52, 80, 81, 2000} {
			l = append(l, post(by, api.Commit{Count: n, Leaves: 9}))
		}
		l = append(l, post(by, api.Commit{Count: 60}), api.Op{Kind: 5, By: by}, confirm(by))
		for number := 1; number <= 5; number++ {
			l = append(l, challenge(by, number, nil), challenge(by, number, s.shown(40, 45)), challenge(by, number, s.shown(45, 50)), challenge(by, number, s.shown(50, 51)), fight(by, number))
			for _, to := range people {
				l = append(l, split(by, number, to, s.commits[42]), split(by, number, to, s.commits[47]), expire(by, number, to))
			}
			l = append(l, pick(by, number, 0), pick(by, number, 1), prove(by, number, nil), prove(by, number, s.shown(41, 42)), prove(by, number, s.shown(42, 43)))
		}
		for i := range s.commits[40].Leaves {
			l = append(l, claiming(by, s.leaves, i, s.commits[40].Leaves), claiming(by, s.leaves, i, s.commits[45].Leaves+1))
		}
		l = append(l, claim(by, nil), claim(by, leafBytes(s.leaves[0])))
	}
	return l
}

// What is refused changes nothing that any call tells, nor what comes of anything behind it.
func TestP18_7_Refused(t *testing.T) {
	w := busyWorld(t)
	ops := everyOp(w)
	fresh, was := w.twin(), tell(w.contract)
	refused := map[api.Errno]int{}
	for _, now := range []int{-1, 160, 161, 165, 171, 172, 260, late, late + 1} {
		for _, o := range ops {
			if w.said.why(now, o) == 0 {
				continue
			}
			got := w.contract.Do(now, o)
			if got.Code != w.said.why(now, o) || got.Number != 0 || len(got.Pays) != 0 {
				t.Fatalf("%s: %+v", textOf(now, o), got)
			}
			refused[got.Code]++
			wantSame(t, "behind "+textOf(now, o), w.contract, was)
			if t.Failed() {
				return
			}
		}
	}
	for _, code := range []int{131, 132, 141, 142, 143, 144, 145, 147, 160, 161, 162, 164, 166, 167, 168, 170, 171, 172, 173, 174, 175, 181, 182, 183, 185, 186, 187} {
		if refused[api.Errno(code)] == 0 {
			t.Errorf("error %d did not come", code)
		}
	}
	for _, now := range []int{161, 172, 260} {
		for _, o := range ops {
			one, two := w.contract.Copy(), fresh.contract.Copy()
			if a, b := one.Do(now, o), two.Do(now, o); !sameResult(a, b) || !reflect.DeepEqual(tell(one), tell(two)) {
				t.Fatalf("%s: %+v, and without what was refused %+v", textOf(now, o), a, b)
			}
		}
	}
}

func TestP18_7_TimeNeverFalls(t *testing.T) {
	w := busyWorld(t)
	last := w.contract.Now()
	for i, o := range everyOp(w) {
		w.contract.Do(161+i%300-150, o)
		if now := w.contract.Now(); now < last {
			t.Fatalf("behind %s: Now is %d, and was %d", textOf(0, o), now, last)
		} else {
			last = now
		}
	}
}

// What no operation comes to by itself: the last step of a row is refused, and what the first ones have done is taken back.
func TestP18_7_TakenBack(t *testing.T) {
	most := api.Wide{math.MaxUint64, math.MaxUint64, math.MaxUint64, math.MaxUint64}
	fullVault := func(c *Contract) { c.vault.Free(c.vault.Locked()); c.vault.Lock(most) }
	emptyVault := func(c *Contract) { c.vault.Free(c.vault.Locked()) }
	oneBond := func(c *Contract) { c.vault.Free(c.vault.Locked()); c.vault.Lock(of(7)) }
	shown := begun(t).side.shown(40, 45)
	for _, x := range []struct {
		name   string
		turn   func(c *Contract)
		now    int
		o      api.Op
		wanted int
	}{
		{"a deposit behind a later entry", func(c *Contract) { c.box.Add(api.Entry{Kind: 2, Time: 999}) }, 170, deposit(ann, 0, bob, of(5), 100), 153},
		{"a post", fullVault, 170, post(ann, api.Commit{Count: 60, Leaves: 50}), 145},
		{"a duel", fullVault, 170, fight(ann, 3), 145},
		{"a confirm", func(c *Contract) {
			c.fights = nil
			c.rungs.Release(2)
			c.rungs.Release(2)
			c.rungs.Release(2)
			emptyVault(c)
		}, 300, confirm(ann), 149},
		{"a fall by a stroke", emptyVault, 170, challenge(ann, 2, shown), 149},
		{"a fall by a stroke, in its midst", oneBond, 170, challenge(ann, 2, shown), 149},
		{"a fall by silence", emptyVault, 300, expire(ann, 2, bob), 149},
		{"a fall by silence, in its midst", oneBond, 300, expire(ann, 2, bob), 149},
		{"a duel that is lost", emptyVault, 300, expire(ann, 2, cyd), 149},
		{"a duel that is lost, over what is not held", func(c *Contract) { c.rungs.Release(2); c.rungs.Release(2); c.rungs.Release(2) }, 300, expire(ann, 2, cyd), 166},
		{"a fall by a proof", oneBond, 170, prove(dan, 2, begun(t).side.shown(41, 42)), 149},
	} {
		c := busyWorld(t).contract
		x.turn(c)
		was := tell(c)
		box := c.box
		for range 2 {
			got := c.Do(x.now, x.o)
			if !sameResult(got, api.Result{Code: api.Errno(x.wanted)}) {
				t.Errorf("%s: %+v, not %d", x.name, got, x.wanted)
			}
			wantSame(t, x.name, c, was)
		}
		if c.box != box {
			t.Errorf("%s: an inbox that has not grown was put back", x.name)
		}
	}
	c := busyWorld(t).contract // an inbox that has grown is put back
	was := tell(c)
	ahead := c.Copy()
	c.Do(200, send(ann, 1))
	c.putBack(ahead)
	wantSame(t, "put back", c, was)
}

// Nothing that is handed in is changed or kept, its spare room neither.
func TestR4_HandedIn(t *testing.T) {
	w := busyWorld(t)
	for _, now := range []int{161, 172, 260} {
		for _, o := range everyOp(w) {
			one, two := w.contract.Copy(), w.contract.Copy()
			handed := o
			handed.Body, handed.Path = roomyBytes(o.Body), roomyPath(o.Path)
			body, path := bytes.Clone(handed.Body[:cap(handed.Body)]), slices.Clone(handed.Path[:cap(handed.Path)])
			a, b := one.Do(now, handed), two.Do(now, o)
			if !sameResult(a, b) {
				t.Fatalf("%s: %+v and %+v", textOf(now, o), a, b)
			}
			if !bytes.Equal(body, handed.Body[:cap(handed.Body)]) || !slices.Equal(path, handed.Path[:cap(handed.Path)]) {
				t.Fatalf("%s: what was handed in is written into", textOf(now, o))
			}
			for i := range handed.Body[:cap(handed.Body)] {
				handed.Body[:cap(handed.Body)][i] ^= 255
			}
			clear(handed.Path[:cap(handed.Path)])
			if a.Code == 0 && !reflect.DeepEqual(tell(one), tell(two)) {
				t.Fatalf("%s: what was handed in is kept", textOf(now, o))
			}
		}
	}
}

func roomyBytes(b []byte) []byte { return append(bytes.Clone(b), "spare room"...)[:len(b)] }

func roomyPath(l []api.Digest) []api.Digest {
	return append(slices.Clone(l), api.Digest{7}, api.Digest{8}, api.Digest{9})[:len(l)]
}

// What is answered may be written over, its spare room too.
func TestR4_Answered(t *testing.T) {
	w := busyWorld(t)
	was := tell(w.contract)
	spoil := func(c *Contract) {
		p, d := c.Pending(), c.Duels()
		for i := range p[:cap(p)] {
			p[:cap(p)][i] = api.Pending{Number: 99}
		}
		for i := range d[:cap(d)] {
			d[:cap(d)][i] = api.Duel{Number: 99}
		}
		box := c.Inbox()
		for i := range box.Len() {
			e, _ := box.Entry(i)
			for j := range e.Body[:cap(e.Body)] {
				e.Body[:cap(e.Body)][j] ^= 255
			}
		}
		for i := range 9 {
			if _, e := box.Add(api.Entry{Kind: 2, Sender: ann, Time: 500 + i}); e != 0 {
				t.Errorf("Add: %d", int(e))
			}
		}
	}
	spoil(w.contract)
	wantSame(t, "behind what was written over", w.contract, was)
	w.want(t, "an entry", 200, send(ann, 5), 0, 80)
	spoil(w.contract)
	w.wantTold(t, "behind what was written over")
	for _, now := range []int{172, 260} {
		for _, o := range everyOp(w) {
			c := w.twin()
			r := c.contract.Do(now+100, o)
			c.said.do(now+100, o)
			for i := range r.Pays[:cap(r.Pays)] {
				r.Pays[:cap(r.Pays)][i] = api.Pay{Why: 99}
			}
			if r.Code == 0 {
				c.wantTold(t, "behind Pays that were written over: "+textOf(now, o))
			}
			if t.Failed() {
				return
			}
		}
	}
}

// doneIn are operations that are done in a busy world.
func doneIn(w world, now int) []api.Op {
	seen := map[string]bool{}
	return slices.DeleteFunc(everyOp(w), func(o api.Op) bool {
		if w.said.why(now, o) != 0 {
			return true
		}
		key := fmt.Sprint(o.Kind, o.Number, whose(o), o.Index, o.Token) // one of each sort
		twice := seen[key]
		seen[key] = true
		return twice
	})
}

func TestP18_4_CopyHasTheSame(t *testing.T) {
	w := busyWorld(t)
	twin := w.contract.Copy()
	if twin == w.contract || !reflect.DeepEqual(tell(twin), tell(w.contract)) {
		t.Error("the copy tells something else")
	}
	both{twin, w.said}.wantTold(t, "the copy")
	for _, now := range []int{161, 172, 260} {
		for _, o := range everyOp(w) {
			one, two := w.contract.Copy(), twin.Copy()
			if a, b := one.Do(now, o), two.Do(now, o); !sameResult(a, b) {
				t.Fatalf("%s: %+v, of a copy %+v", textOf(now, o), a, b)
			}
		}
	}
}

// Each operation on the one is not seen in the other, whichever of the two it is.
func TestP18_4_WhatIsDoneToOneIsNotSeenInTheOther(t *testing.T) {
	w := busyWorld(t)
	kinds := map[int]int{}
	for _, now := range []int{162, 172, 260} {
		ops := doneIn(w, now)
		for i, one := range ops {
			kinds[one.Kind]++
			for _, which := range []int{0, 1} {
				b := w.copied()
				pair := []both{b, b.copied()}
				was := tell(pair[1-which].contract)
				pair[which].do(t, "the one", now, one)
				wantSame(t, "the other one, behind "+textOf(now, one), pair[1-which].contract, was)
				two := ops[(7*i+3)%len(ops)]
				was = tell(pair[which].contract)
				pair[1-which].do(t, "the other one", now, two)
				wantSame(t, "the one, behind "+textOf(now, two)+" in the other", pair[which].contract, was)
			}
			if t.Failed() {
				return
			}
		}
	}
	for kind := 1; kind <= 13; kind++ {
		if kinds[kind] == 0 && kind != 6 { // the first pending one is held
			t.Errorf("kind %d did not come", kind)
		}
	}
}

func TestP18_4_CopiesOfCopies(t *testing.T) {
	w := begun(t)
	s := w.side
	all := []both{w.both}
	for i, o := range []api.Op{
		post(ann, s.lies(40)[0]), fight(bob, 1), fight(cyd, 1), split(ann, 1, cyd, s.commits[20]), pick(cyd, 1, 1), send(dan, 9), split(ann, 1, bob, s.lies(20)[0]), deposit(ann, 0, bob, of(4), 100), pick(bob, 1, 0), post(bob, s.commits[41]), list(oda, 9),
	} {
		next := all[i].copied()
		next.do(t, "on", 60+i, o)
		all = append(all, next)
	}
	for i, b := range all {
		b.wantTold(t, fmt.Sprint("contract ", i))
		b.copied().ahead(t, 500, send(ann, byte(i)))
		b.ahead(t, 400, send(bob, byte(i)), list(oda, 10))
	}
	for i, b := range all {
		b.wantTold(t, fmt.Sprint("at last, contract ", i))
	}
}

// Two contracts have nothing to do with each other.
func TestR5_TwoContracts(t *testing.T) {
	one, two := newBoth(t, usual()), newBoth(t, usual())
	one.ahead(t, 5, list(oda, 1), deposit(ann, 1, bob, of(4), 9), post(ann, api.Commit{Count: 1}))
	two.wantTold(t, "the other one")
	two.ahead(t, 3, list(oda, 1), send(ann, 1))
	one.wantTold(t, "the one")
}

// Who goes on with a copy does not disturb another who goes on with another one, or with the first one, at the same time.
func TestR5_SideBySide(t *testing.T) {
	w := busyWorld(t)
	ops := everyOp(w)
	all := []*Contract{w.contract}
	for range 7 {
		all = append(all, w.contract.Copy())
	}
	alone := w.contract.Copy()
	for i, o := range ops {
		alone.Do(161+i%4, o)
	}
	var group sync.WaitGroup
	for _, c := range all {
		group.Go(func() {
			for i, o := range ops {
				c.Do(161+i%4, o)
			}
		})
	}
	group.Wait()
	for i, c := range all {
		wantSame(t, fmt.Sprint("contract ", i), c, tell(alone))
	}
}

// Links and entries stay what they were, whatever is done; and one comes for each deposit and letter that is done.
func TestP18_8_Stamped(t *testing.T) {
	w := busyWorld(t)
	box := w.contract.Inbox()
	now := 161
	for i, o := range everyOp(w) {
		was := w.contract.Inbox()
		if i%5 == 0 {
			now++
		}
		got := w.contract.Do(now, o)
		is := w.contract.Inbox()
		grows := 0
		if got.Code == 0 && (o.Kind == 3 || o.Kind == 4) {
			grows = 1
			last, _ := is.Entry(was.Len())
			if last.Sender != o.By || last.Time != now || got.Number != was.Len() || last.Kind != o.Kind-2 {
				t.Errorf("%s: %+v, %+v", textOf(now, o), got, last)
			}
		}
		if is.Len() != was.Len()+grows || is.Fork(was) != was.Len() || is.Fork(box) != box.Len() {
			t.Fatalf("%s: the inbox had %d entries, and has %d", textOf(now, o), was.Len(), is.Len())
		}
		for n := range box.Len() + 1 {
			a, _ := is.Link(n)
			if b, _ := box.Link(n); a != b {
				t.Fatalf("%s: link %d is another one", textOf(now, o), n)
			}
		}
	}
	if w.contract.Inbox().Len() < box.Len()+10 {
		t.Error("it has hardly grown")
	}
}

func TestR1_Nil(t *testing.T) {
	var c *Contract
	zero := &Contract{}
	for _, x := range []*Contract{c, zero} {
		there, stopped := x.Listed(0)
		if x.Config() != (api.Config{}) || x.Now() != 0 || x.Held(0) != (api.Wide{}) || x.Locked() != (api.Wide{}) || there || stopped || x.Paid(0) || x.Confirmed() != (api.Commit{}) || x.Top() != (api.Commit{}) || len(x.Pending()) != 0 || len(x.Duels()) != 0 || x.Inbox() != nil {
			t.Error("what New did not give tells something")
		}
	}
	if c.Copy() != nil {
		t.Error("there is a copy of nothing")
	}
	w := busyWorld(t)
	for _, now := range []int{-1, 0, 161, late, late + 1} {
		for _, o := range everyOp(w) {
			if got := c.Do(now, o); !sameResult(got, api.Result{Code: 1}) {
				t.Errorf("%s of a nil contract: %+v", textOf(now, o), got)
			}
			if got := zero.Do(now, o); got.Code == 0 || got.Number != 0 || len(got.Pays) != 0 {
				t.Errorf("%s of a contract that New did not give: %+v", textOf(now, o), got)
			}
		}
	}
}
