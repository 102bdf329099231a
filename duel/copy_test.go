package duel

import (
	"bytes"
	"fmt"
	"slices"
	"sync"
	"testing"

	"causeway/api"
)

// refused are calls that are each refused in a duel, by every error that its state has.
func refused(t testing.TB, b both) []call {
	w := theWorld()
	v, last := b.duel.View(), b.said.time()
	middle := w.commits[half(v)]
	wrong := w.commits[half(v)+1]
	var l []call
	for _, now := range []int{-1, last - 1, last, v.Until, v.Until + 1, late, late + 1} {
		for _, by := range []api.Address{personC, personD, personX} {
			l = append(l, split(by, middle, now), split(by, wrong, now), pick(by, true, now), pick(by, false, now), expire(now))
			l = append(l, prove(by, w.recorded(t, 6), now, w.entries[6]), prove(by, api.Witness{}, now, w.entries[6]), prove(by, api.Witness{}, now))
		}
	}
	return slices.DeleteFunc(l, func(c call) bool { return b.said.why(c) == 0 })
}

// turning are calls that are each done in a duel.
func turning(t testing.TB, b both) []call {
	w := theWorld()
	v, last := b.duel.View(), b.said.time()
	l := []call{expire(v.Until + 1), expire(v.Until + 50)}
	for _, now := range []int{last, last + 3, v.Until} {
		l = append(l, split(personD, w.commits[half(v)], now), split(personD, w.lies(half(v))[0], now), pick(personC, true, now), pick(personC, false, now), good(t, now))
	}
	return slices.DeleteFunc(l, func(c call) bool { return b.said.why(c) != 0 })
}

// What is refused turns nothing: how the duel stands is asked behind it, and what it does not tell is tried.
func TestP17_8_Refused(t *testing.T) {
	for _, x := range append(open(t), ended(t)...) {
		was := x.duel.View()
		for range 2 {
			for _, c := range refused(t, x.both) {
				if x.do(t, x.name, c) == 0 {
					t.Fatalf("%s, %v: done", x.name, c)
				}
				if got := x.duel.View(); got != was {
					t.Fatalf("%s, behind %v: %+v, not %+v", x.name, c, got, was)
				}
			}
		}
		for _, c := range turning(t, x.both) {
			x.copied().want(t, x.name+", behind what was refused", c, 0)
		}
	}
}

func TestP17_7_CopyStandsAsTheFirst(t *testing.T) {
	for _, x := range append(open(t), ended(t)...) {
		c := x.copied()
		if c.duel == x.duel || c.duel.View() != x.duel.View() {
			t.Errorf("%s: the copy is %+v, not %+v", x.name, c.duel.View(), x.duel.View())
		}
		c.wantTold(t, "a copy in "+x.name)
		for _, r := range refused(t, c) {
			c.do(t, "a copy in "+x.name, r)
		}
		x.wantTold(t, x.name+", behind what a copy was refused")
	}
}

// Every move on the one is not seen in the other, whichever of the two it is.
func TestP17_7_WhatBecomesOfOneIsNotSeenInTheOther(t *testing.T) {
	for _, x := range open(t) {
		for _, one := range turning(t, x.both) {
			for _, two := range turning(t, x.both) {
				for _, which := range []int{0, 1} {
					b := x.copied()
					pair := []both{b, b.copied()}
					what := fmt.Sprint(x.name, ": ", one, " in ", which, ", ", two, " in the other")
					pair[which].want(t, what, one, 0)
					pair[1-which].wantTold(t, what)
					pair[1-which].want(t, what, two, 0)
					pair[which].wantTold(t, what)
				}
			}
		}
	}
}

// A copy that nobody moves in ends itself, not the one that it was made of, and the other way about.
func TestP17_7_ExpireInTheOne(t *testing.T) {
	for _, x := range open(t) {
		for _, which := range []int{0, 1} {
			b := x.copied()
			pair := []both{b, b.copied()}
			was := b.duel.View()
			pair[which].want(t, x.name, expire(was.Until+1), 0)
			if v := pair[1-which].duel.View(); v != was {
				t.Errorf("%s: the other one is %+v, not %+v", x.name, v, was)
			}
			if v := pair[which].duel.View(); v.State < 4 {
				t.Errorf("%s: it has not ended: %+v", x.name, v)
			}
		}
	}
}

func TestP17_7_CopiesOfCopies(t *testing.T) {
	w := theWorld()
	all := []both{newBoth(t, opening{1, w.commits[0], w.lies(1024)[0], personC, personD, 100, 0})}
	for i := range 20 {
		next := all[i].copied()
		c := split(personD, w.commits[half(next.said.view())], 10*i)
		if i%2 == 1 {
			c = pick(personC, i%3 == 0, 10*i)
		}
		all = append(all, next.want(t, fmt.Sprint("copy ", i), c, 0))
	}
	for i, b := range all {
		b.wantTold(t, fmt.Sprint("duel ", i))
		b.copied().want(t, "on", expire(late), 0)
		b.want(t, "on", expire(late-i), 0)
	}
	for i, b := range all {
		b.wantTold(t, fmt.Sprint("at last, duel ", i))
	}
}

func roomy(b []byte) []byte { return append(bytes.Clone(b), "spare room"...)[:len(b)] }

// roomyWitness is a witness whose lists all have spare room.
func roomyWitness(w api.Witness) api.Witness {
	pairs := append(slices.Clone(w.Pairs), api.Pair{Key: "spare"}, api.Pair{Key: "room"})[:len(w.Pairs)]
	for i := range pairs {
		pairs[i].Value = roomy(pairs[i].Value)
	}
	sides := append(slices.Clone(w.Proof.Sides), api.Digest{1}, api.Digest{2})[:len(w.Proof.Sides)]
	return api.Witness{Pairs: pairs, Proof: api.Proof{Marks: roomy(w.Proof.Marks), Sides: sides}}
}

// stretched is a witness with the spare room of all its lists, in the same memory.
func stretched(w api.Witness) api.Witness {
	s := api.Witness{Pairs: slices.Clone(w.Pairs[:cap(w.Pairs)]), Proof: api.Proof{Marks: w.Proof.Marks[:cap(w.Proof.Marks)], Sides: w.Proof.Sides[:cap(w.Proof.Sides)]}}
	for i := range s.Pairs {
		s.Pairs[i].Value = s.Pairs[i].Value[:cap(s.Pairs[i].Value)]
	}
	return s
}

// spoil writes into all that a call was handed, its spare room too.
func spoil(c call) {
	s := stretched(c.witness)
	for _, p := range s.Pairs {
		for i := range p.Value {
			p.Value[i] ^= 255
		}
	}
	for i := range s.Proof.Marks {
		s.Proof.Marks[i] ^= 255
	}
	for i := range s.Proof.Sides {
		s.Proof.Sides[i][0] ^= 255
	}
	for i := range c.witness.Pairs[:cap(c.witness.Pairs)] {
		c.witness.Pairs[:cap(c.witness.Pairs)][i] = api.Pair{Key: "spoiled"}
	}
	for i, e := range c.entries[:cap(c.entries)] {
		for j := range e.Body[:cap(e.Body)] {
			e.Body[:cap(e.Body)][j] ^= 255
		}
		c.entries[:cap(c.entries)][i] = api.Entry{Kind: 99}
	}
}

func sameEntry(a, b api.Entry) bool {
	return a.Kind == b.Kind && a.Sender == b.Sender && a.Time == b.Time && a.Token == b.Token && a.To == b.To && a.Amount == b.Amount && a.Gas == b.Gas && bytes.Equal(a.Body, b.Body)
}

// Witnesses and entries: Prove leaves them as they were, and what is written over them behind it is not seen.
func TestP17_8_NothingIsKept(t *testing.T) {
	w := theWorld()
	for n := range 40 {
		for i, high := range append(w.lies(n+1), w.commits[n+1]) {
			b := proving(t, n, high)
			for _, seen := range append(forged(w.recorded(t, n))[:3], w.recorded(t, n)) {
				c := prove(personC, roomyWitness(seen), 1030, w.entries[n])
				c.entries = append(c.entries, api.Entry{Kind: 77}, api.Entry{Kind: 78})[:1]
				c.entries[0].Body = roomy(w.entries[n].Body)
				ahead := copyOf(stretched(c.witness))
				b.do(t, fmt.Sprint("entry ", n, ", High ", i), c)
				rest := c.entries[:3]
				whole := rest[0]
				whole.Body = whole.Body[:cap(whole.Body)]
				wanted := w.entries[n]
				wanted.Body = roomy(wanted.Body)
				wanted.Body = wanted.Body[:cap(wanted.Body)]
				if !sameWitness(stretched(c.witness), ahead) || !sameEntry(whole, wanted) || rest[1].Kind != 77 || rest[2].Kind != 78 {
					t.Errorf("entry %d: what was handed in is written into", n)
				}
				if len(b.said.done) > 0 { // the words keep no witness either
					b.said.done[len(b.said.done)-1].witness, b.said.done[len(b.said.done)-1].entries = api.Witness{}, nil
				}
				twin := b.copied()
				spoil(c)
				b.wantTold(t, "behind what was written over")
				twin.wantTold(t, "the copy, behind what was written over")
			}
		}
	}
}

// Two duels have nothing to do with each other.
func TestR5_TwoDuels(t *testing.T) {
	one, two := inPick(t), inPick(t)
	one.row(t, pick(personC, false, 1050), expire(2000))
	two.wantTold(t, "the other one")
	two.row(t, pick(personC, true, 1011))
	one.wantTold(t, "the one")
}

// Who goes on with a copy does not disturb another who goes on with another one, or with the first one, at the same time.
func TestR5_SideBySide(t *testing.T) {
	first := inProve(t)
	all := []both{first}
	for range 7 {
		all = append(all, first.copied())
	}
	calls := refused(t, first)
	last := good(t, 1090)
	var group sync.WaitGroup
	for i, b := range all {
		group.Go(func() {
			for _, c := range calls {
				b.do(t, fmt.Sprint("side by side, duel ", i), c)
			}
			if i%2 == 0 {
				b.do(t, fmt.Sprint("side by side, duel ", i), last)
			}
		})
	}
	group.Wait()
	for i, b := range all {
		b.wantTold(t, fmt.Sprint("at last, duel ", i))
		if won := b.duel.View().State == 4; won != (i%2 == 0) {
			t.Errorf("duel %d: %+v", i, b.duel.View())
		}
	}
}
