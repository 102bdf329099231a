package duel

import (
	"fmt"
	"math"
	"math/bits"
	"math/rand"
	"slices"
	"testing"

	"causeway/api"
)

// steps is how many a script has: a tenth of them where little time is given.
func steps(n int) int {
	if testing.Short() {
		return n / 10
	}
	return n
}

// script draws calls over some duels and their copies.
type script struct {
	*rand.Rand
	world
	all []both
}

func newScript(t testing.TB, seed int) *script {
	r := &script{Rand: rand.New(rand.NewSource(int64(seed))), world: theWorld()}
	for range 3 {
		r.all = append(r.all, r.begun(t))
	}
	return r
}

// commit is one of that count: right, or not.
func (r *script) commit(count int) api.Commit {
	if l := r.lies(count); r.Intn(2) == 0 {
		return l[r.Intn(len(l))]
	}
	return r.commits[count]
}

// opening draws one over some of the world's entries: more often over few of them.
func (r *script) opening() opening {
	low, span := r.Intn(40), 2+r.Intn(6)
	if r.Intn(4) == 0 {
		span = 2 + r.Intn(1023)
	}
	o := opening{1 + r.Intn(9), r.commits[low], r.commit(low + span), personC, personD, []int{1, 5, 30, 30, 100, full}[r.Intn(6)], r.Intn(100)}
	if r.Intn(10) == 0 {
		o.now = late - r.Intn(200)
	}
	return o
}

func (r *script) begun(t testing.TB) both { return newBoth(t, r.opening()) }

// time is mostly within the turn, now and then about its end, or anything.
func (r *script) time(s *said) int {
	last, until := s.time(), s.view().Until
	switch r.Intn(24) {
	case 0:
		return []int{math.MinInt, -1, 0, late - s.turn, late, late + 1, math.MaxInt}[r.Intn(7)]
	case 1:
		return last - 1
	case 2:
		return until + r.Intn(3) - 1
	case 3, 4:
		return last
	}
	return last + r.Intn(3)
}

// by is mostly whose move it is.
func (r *script) by(s *said) api.Address {
	if r.Intn(10) == 0 {
		return []api.Address{personC, personD, personX, {}}[r.Intn(4)]
	}
	if s.view().State == 1 {
		return personD
	}
	return personC
}

// middle is mostly a commit that may be split by.
func (r *script) middle(v api.Duel) api.Commit {
	c := r.commit(half(v))
	switch r.Intn(16) {
	case 0:
		c.Count += r.Intn(5) - 2
	case 1:
		c.Count = []int{math.MinInt, -1, 0, full, math.MaxInt}[r.Intn(5)]
	}
	return c
}

// prove is mostly by the witness of the entry that is behind Low, as it is or forged, now and then by another one.
func (r *script) prove(t testing.TB, s *said, by api.Address, now int) call {
	n := s.view().Low.Count
	if r.Intn(10) == 0 {
		n = r.Intn(50)
	}
	w := r.recorded(t, n)
	if l := forged(w); r.Intn(2) == 0 {
		w = l[r.Intn(len(l))]
	}
	many := 1
	if r.Intn(10) == 0 {
		many = r.Intn(3)
	}
	return prove(by, w, now, r.entries[n:n+many]...)
}

// call draws one, mostly that of the state.
func (r *script) call(t testing.TB, s *said) call {
	v, by, now := s.view(), r.by(s), r.time(s)
	which := v.State
	if r.Intn(5) == 0 {
		which = r.Intn(6)
	}
	switch which {
	case 1:
		return split(by, r.middle(v), now)
	case 2:
		return pick(by, r.Intn(2) == 0, now)
	case 3:
		return r.prove(t, s, by, now)
	}
	return expire(now)
}

// step makes one call, and puts beside the duel a copy of it, or a new one in the place of one that has ended.
func (r *script) step(t testing.TB, what string) (call, api.Errno) {
	i := r.Intn(len(r.all))
	b := r.all[i]
	c := r.call(t, b.said)
	e := b.do(t, what, c)
	switch {
	case b.said.view().State > 3 && r.Intn(4) == 0, b.said.time() == late && r.Intn(4) == 0:
		r.all[i] = r.begun(t)
	case r.Intn(8) > 0:
	case len(r.all) < 6:
		r.all = append(r.all, b.copied())
	default:
		r.all[r.Intn(6)] = b.copied()
	}
	return c, e
}

func TestLongScripts(t *testing.T) {
	seen := map[string]int{}
	for seed := range 6 {
		r := newScript(t, seed)
		for i := range steps(4000) {
			what := fmt.Sprint("script ", seed, ", step ", i)
			c, e := r.step(t, what)
			seen[fmt.Sprint(c.name, " ", int(e))]++
			if i%50 == 0 {
				for j, b := range r.all {
					b.wantTold(t, fmt.Sprint(what, ", duel ", j))
				}
			}
			if t.Failed() {
				return
			}
		}
	}
	for _, x := range []string{
		"Split 0", "Split 171", "Split 172", "Split 173", "Split 175", "Split 177", "Pick 0", "Pick 171", "Pick 172", "Pick 173", "Pick 177",
		"Prove 0", "Prove 1", "Prove 131", "Prove 132", "Prove 171", "Prove 172", "Prove 173", "Prove 176", "Prove 177", "Expire 0", "Expire 171", "Expire 174", "Expire 177",
	} {
		if seen[x] < 20 && !testing.Short() {
			t.Errorf("%s came %d times", x, seen[x])
		}
	}
}

// Of any span, by the slowest who move at all: so many rounds as its logarithm, rounded up, and so many turns.
func TestP17_9_ItEnds(t *testing.T) {
	for span := 2; span <= 1024; span++ {
		for seed := range 4 {
			r := rand.New(rand.NewSource(int64(seed)))
			d, _ := Open(1, at(5), at(5+span), personC, personD, 100, 1000)
			turns := 1
			for v := d.View(); v.State != 3; v = d.View() {
				if turns > 21 {
					t.Fatalf("span %d: no end: %+v", span, v)
				}
				middle := half(v)
				upper := r.Intn(2) == 0
				if seed == 0 { // what is left is as much as can be
					upper = v.High.Count-middle >= middle-v.Low.Count
				}
				if e := d.Split(personD, at(middle), v.Until); e != 0 {
					t.Fatalf("span %d: Split: %d", span, int(e))
				}
				if e := d.Pick(personC, upper, d.View().Until); e != 0 {
					t.Fatalf("span %d: Pick: %d", span, int(e))
				}
				was, is := v.High.Count-v.Low.Count, d.View().High.Count-d.View().Low.Count
				if is != was/2 && is != was-was/2 {
					t.Fatalf("the span was %d and is %d", was, is)
				}
				turns += 2
			}
			most := bits.Len(uint(span - 1))
			if v := d.View(); v.Rounds > most || v.Rounds > 10 || turns > 21 || v.Until != 1000+100*turns || seed == 0 && v.Rounds != most {
				t.Fatalf("span %d: %d turns, %+v", span, turns, v)
			}
			if e := d.Expire(1000 + 100*turns + 1); e != 0 || d.View().State != 5 {
				t.Fatalf("span %d: Expire: %d, %+v", span, int(e), d.View())
			}
		}
	}
}

// Whatever is called in between: if Expire is called behind each turn that is over, the duel has ended behind 21 turns.
func TestP17_9_WhateverIsCalled(t *testing.T) {
	most := 0
	for seed := range steps(500) {
		r := newScript(t, 900+seed)
		o := r.opening()
		o.turn, o.now = 20, 1000
		b := newBoth(t, o)
		for now := 1000; b.said.view().State < 4; now++ {
			if now > 1000+21*20+1 {
				t.Fatalf("seed %d: not ended at %d: %+v", seed, now, b.duel.View())
			}
			for range r.Intn(3) {
				c := r.call(t, b.said)
				c.now = now
				c.inDuel(b.duel)
				b.said.do(c)
			}
			if now > b.duel.View().Until && b.said.view().State < 4 {
				b.want(t, "over", expire(now), 0)
			}
		}
		b.wantTold(t, fmt.Sprint("seed ", seed))
		most = max(most, b.duel.View().Rounds)
		if b.duel.View().Rounds > 10 {
			t.Errorf("%d rounds", b.duel.View().Rounds)
		}
	}
	if most < 6 {
		t.Errorf("at most %d rounds came", most)
	}
}

// tells is how a defender says what is committed behind so many entries.
type tells func(count int) api.Commit

// liars are ways to defend what is wrong at High: with what is right up to an entry and wrong from there on, with what is right, or wrong, all the way, or by chance.
func liars(r *script, low, high int) []tells {
	from := low + 1 + r.Intn(high-low)
	return []tells{
		func(count int) api.Commit {
			if count < from {
				return r.commits[count]
			}
			return r.lies(count)[0]
		},
		func(count int) api.Commit { return r.commits[count] },
		func(count int) api.Commit { return r.lies(count)[2] },
		func(count int) api.Commit {
			c := r.commits[low]
			c.Count = count
			return c
		},
		func(count int) api.Commit { return r.commit(count) },
	}
}

// wantAsItShould: Low is right, and High is not.
func (w world) wantAsItShould(t testing.TB, what string, v api.Duel) {
	t.Helper()
	if v.Low != w.commits[v.Low.Count] || v.High == w.commits[v.High.Count] {
		t.Fatalf("%s: Low right: %v, High wrong: %v", what, v.Low == w.commits[v.Low.Count], v.High != w.commits[v.High.Count])
	}
}

// challenge plays a duel for one who is right; silent: in how many rounds the defender says nothing any more. How it ended.
func (w world) challenge(t testing.TB, what string, d *Duel, says tells, silent int) api.Duel {
	t.Helper()
	now := d.View().Until - 3
	for v := d.View(); v.State == api.DuelSplit; v = d.View() {
		w.wantAsItShould(t, what, v)
		if v.Rounds > 10 {
			t.Fatalf("%s: no end: %+v", what, v)
		}
		if v.Rounds == silent {
			if e := d.Expire(v.Until + 1); e != 0 {
				t.Fatalf("%s: Expire: %d", what, int(e))
			}
			return d.View()
		}
		now++
		if e := d.Split(v.Defender, says(half(v)), now); e != 0 {
			t.Fatalf("%s: Split: %d", what, int(e))
		}
		middle := d.View().Middle
		if e := d.Pick(v.Challenger, middle == w.commits[middle.Count], now); e != 0 {
			t.Fatalf("%s: Pick: %d", what, int(e))
		}
	}
	v := d.View()
	w.wantAsItShould(t, what, v)
	if v.State != 3 || v.High.Count != v.Low.Count+1 {
		t.Fatalf("%s: %+v", what, v)
	}
	n := v.Low.Count
	if e := d.Prove(v.Challenger, w.recorded(t, n), now, w.entries[n]); e != 0 {
		t.Fatalf("%s: Prove: %d", what, int(e))
	}
	return d.View()
}

func TestP17_10_WhoIsRightWins(t *testing.T) {
	r := newScript(t, 10)
	for i := range steps(1500) {
		span := 2 + r.Intn(12)
		if i%3 == 0 {
			span = 2 + r.Intn(1023)
		}
		if i%40 == 0 {
			span = 1024
		}
		low := r.Intn(len(r.commits) - span)
		lies := r.lies(low + span)
		for j, says := range liars(r, low, low+span) {
			for _, silent := range []int{-1, r.Intn(10)} {
				d, e := Open(1, r.commits[low], lies[r.Intn(len(lies))], personC, personD, 100, 1000)
				if e != 0 {
					t.Fatalf("Open: %d", int(e))
				}
				what := fmt.Sprint("from ", low, " to ", low+span, ", liar ", j)
				if v := r.challenge(t, what, d, says, silent); v.State != 4 || v.Until != 0 {
					t.Errorf("%s: %+v", what, v)
				}
			}
		}
	}
}

// Who lies from an entry on is found just there.
func TestP17_10_WhereTheLieBegins(t *testing.T) {
	w := theWorld()
	for span := 2; span <= 33; span++ {
		for from := 1; from <= span; from++ {
			low := 20
			says := func(count int) api.Commit {
				if count < low+from {
					return w.commits[count]
				}
				return w.lies(count)[count%5]
			}
			d, _ := Open(1, says(low), says(low+span), personC, personD, 100, 1000)
			if v := w.challenge(t, fmt.Sprint("span ", span, ", from ", from), d, says, -1); v.State != 4 || v.Low.Count != low+from-1 || v.High != says(low+from) {
				t.Errorf("span %d, from %d: %+v", span, from, v)
			}
		}
	}
}

// The lie is what truly follows from another inbox, in which one entry is another one: it is found just there.
func TestP17_10_AnotherInbox(t *testing.T) {
	w := played(rand.New(rand.NewSource(8)), 60)
	for from := 3; from < 60; from++ {
		entries := slices.Clone(w.entries)
		entries[from] = strayEntry()
		other := followed(entries)
		d, _ := Open(1, w.commits[3], other.commits[60], personC, personD, 100, 1000)
		says := func(count int) api.Commit { return other.commits[count] }
		if v := w.challenge(t, fmt.Sprint("from ", from), d, says, -1); v.State != 4 || v.Low.Count != from || v.High != other.commits[from+1] {
			t.Errorf("from %d: %+v", from, v)
		}
	}
}

// lefts plays a duel in all ways that the challenger may pick, with a defender who is right, down to the last entry; of each it tells the duel.
func (w world) lefts(t testing.TB, d *Duel, tell func(d *Duel)) {
	t.Helper()
	v := d.View()
	if v.State == 3 {
		tell(d)
		return
	}
	if v.Rounds > 10 {
		t.Fatalf("no end: %+v", v)
	}
	for _, upper := range []bool{true, false} {
		c := d.Copy()
		if e := c.Split(v.Defender, w.commits[half(v)], v.Until); e != 0 {
			t.Fatalf("Split: %d", int(e))
		}
		if e := c.Pick(v.Challenger, upper, v.Until); e != 0 {
			t.Fatalf("Pick: %d", int(e))
		}
		w.lefts(t, c, tell)
	}
}

// wantHolds: no witness proves anything, the one that is recorded least of all; then the challenger has lost.
func (w world) wantHolds(t testing.TB, d *Duel, witnesses ...api.Witness) {
	t.Helper()
	v := d.View()
	n := v.Low.Count
	if v.Low != w.commits[n] || v.High != w.commits[n+1] {
		t.Fatalf("down to %+v", v)
	}
	for i, x := range witnesses {
		if e := d.Prove(v.Challenger, x, v.Until, w.entries[n]); e == 0 || e == api.ErrArg || d.View() != v {
			t.Fatalf("entry %d: witness %d proves: %d, %+v", n, i, int(e), d.View())
		}
	}
	if e := d.Prove(v.Challenger, w.recorded(t, n), v.Until, w.entries[n]); e != api.ErrDuelHolds {
		t.Fatalf("entry %d: %d", n, int(e))
	}
	if e := d.Expire(v.Until + 1); e != 0 || d.View().State != 5 {
		t.Fatalf("entry %d: Expire: %d, %+v", n, int(e), d.View())
	}
}

// Whatever is picked, over every entry of each span, and whatever witness is shown.
func TestP17_11_WhoIsRightDoesNotLose(t *testing.T) {
	w := theWorld()
	for _, span := range []int{2, 3, 4, 5, 6, 7, 8, 9, 16, 31, 64, 100, 1023, 1024} {
		for _, low := range []int{0, 5, 60} {
			d, e := Open(1, w.commits[low], w.commits[low+span], personC, personD, 100, 1000)
			if e != 0 {
				t.Fatalf("Open: %d", int(e))
			}
			met := map[int]int{}
			w.lefts(t, d, func(d *Duel) {
				n := d.View().Low.Count
				met[n]++
				list := []api.Witness{{}, w.recorded(t, max(0, n-1)), w.recorded(t, n+1)}
				if span < 40 && !testing.Short() {
					list = append(list, forged(w.recorded(t, n))...)
				}
				w.wantHolds(t, d, list...)
			})
			for n := low; n < low+span; n++ {
				if met[n] != 1 {
					t.Fatalf("span %d: it came %d times down to entry %d", span, met[n], n)
				}
			}
		}
	}
}

// A witness may tell more than is touched, if it is so: it shows the same, and nothing is proven by it.
func TestP17_11_MoreThanIsTouched(t *testing.T) {
	w := theWorld()
	for n := range 80 {
		more := widened(t, w.tables[n], w.recorded(t, n))
		proving(t, n, w.commits[n+1]).want(t, "right", prove(personC, more, 1030, w.entries[n]), 176)
		proving(t, n, w.lies(n + 1)[0]).want(t, "wrong", prove(personC, more, 1030, w.entries[n]), 0)
	}
}

// What is asked in between, and copies that are made, turn no answer.
func TestR5_SameCallsSameAnswers(t *testing.T) {
	r := newScript(t, 5)
	for range steps(300) {
		o := r.opening()
		b := newBoth(t, o)
		other, _ := o.open()
		for i := range 30 {
			c := r.call(t, b.said)
			b.said.do(c)
			one := c.inDuel(b.duel)
			b.said.differ(b.duel)
			if two := c.inDuel(other); one != two {
				t.Fatalf("step %d, %v: %d and %d", i, c, int(one), int(two))
			}
		}
		if b.duel.View() != other.View() {
			t.Error("they stand otherwise")
		}
		both{other, b.said}.wantTold(t, "never asked")
	}
}

// callOf makes a call of some bytes: which one, by whom, when, and with what.
func callOf(t testing.TB, s *said, x []byte) call {
	w := theWorld()
	v, last := s.view(), s.time()
	by := []api.Address{personC, personD, personC, personD, personC, personD, personX, {}}[x[1]&7]
	now := last + int(x[2]&31)
	switch x[2] >> 5 {
	case 5:
		now = last - 1 + int(x[2]&1)
	case 6:
		now = v.Until + int(x[2]&3) - 1
	case 7:
		now = []int{math.MinInt, -1, 0, late - s.turn, late - 1, late, late + 1, math.MaxInt}[x[2]&7]
	}
	switch x[0] >> 2 & 3 {
	case 0:
		c := w.commits[half(v)]
		if l := w.lies(c.Count); x[3]&128 == 0 {
			c = l[int(x[3]>>4)%len(l)]
		}
		switch x[3] & 15 {
		case 14:
			c.Count++
		case 15:
			c.Count--
		}
		return split(by, c, now)
	case 1:
		return pick(by, x[3]&1 == 0, now)
	case 2:
		seen := w.recorded(t, v.Low.Count)
		if l := forged(seen); x[3]&128 == 0 {
			seen = l[int(x[3])%len(l)]
		}
		many := []int{1, 1, 1, 1, 1, 1, 0, 2}[x[1]>>3&7]
		return prove(by, seen, now, w.entries[v.Low.Count:v.Low.Count+many]...)
	}
	return expire(now)
}

func FuzzAgainstTheWords(f *testing.F) {
	f.Add([]byte("\x03\x0a\x00\x01\x01\x80\x04\x00\x01\x00\x00\x01\x01\x80\x04\x00\x01\x01\x08\x00\x02\x80"))
	f.Add([]byte("\x05\x2a\x00\x01\x01\x10\x01\x00\x00\x00\x04\x00\x01\x01\x0c\x00\xc2\x00\x2c\x00\xc2\x00"))
	f.Add([]byte("\x01\xff\x00\x01\xe5\x80\x04\x00\xe5\x00\x0c\x00\xe5\x00\x0c\x00\xe6\x00"))
	f.Fuzz(func(t *testing.T, script []byte) {
		if len(script) < 2 {
			return
		}
		w := theWorld()
		low, span := int(script[0]), 2+int(script[1])*3
		o := opening{1, w.commits[low], w.lies(low + span)[0], personC, personD, 30, 500}
		if script[0]&1 == 0 {
			o.high = w.commits[low+span]
		}
		all := []both{newBoth(t, o)}
		script = script[2:]
		for i := 0; len(script) >= 4 && i < 100; i, script = i+1, script[4:] {
			x := script[:4]
			b := all[int(x[0]>>5)%len(all)]
			if x[0]&3 == 3 && len(all) < 8 {
				all = append(all, b.copied())
				continue
			}
			c := callOf(t, b.said, x)
			c.witness = copyOf(c.witness)
			b.do(t, fmt.Sprint("step ", i), c)
		}
		for i, b := range all {
			b.wantTold(t, fmt.Sprint("at last, duel ", i))
		}
	})
}

func BenchmarkDownToOne(b *testing.B) {
	for b.Loop() {
		d, _ := Open(1, at(0), at(1024), personC, personD, 100, 0)
		for v := d.View(); v.State == 1; v = d.View() {
			d.Split(personD, at(half(v)), 0)
			d.Pick(personC, true, 0)
		}
	}
}

func BenchmarkProve(b *testing.B) {
	x := inProve(b)
	c := good(b, 1100)
	for b.Loop() {
		c.inDuel(x.duel.Copy())
	}
}
