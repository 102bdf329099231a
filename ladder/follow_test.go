package ladder

import (
	"fmt"
	"math"
	"math/rand"
	"slices"
	"testing"

	"causeway/api"
)

// script draws calls over some ladders and their copies.
type script struct {
	*rand.Rand
	all []both
}

// newScript begins with ladders of short, middle and long windows, from small commits and from ones near the greatest.
func newScript(t testing.TB, seed int) *script {
	r := &script{Rand: rand.New(rand.NewSource(int64(seed)))}
	for range 3 {
		r.all = append(r.all, r.begun(t))
	}
	return r
}

func (r *script) begun(t testing.TB) both {
	window := []int{1, 5, 40, 40, 1000, late / 2, late}[r.Intn(7)]
	first := at(r.Intn(5), r.Intn(3))
	if r.Intn(6) == 0 {
		first = at(full-r.Intn(3000), full-r.Intn(9))
	}
	return newBoth(t, first, window)
}

func (r *script) one() both { return r.all[r.Intn(len(r.all))] }

// time is mostly at or a little behind the last one, now and then anything; by itself it comes to deadlines.
func (r *script) time(s *said) int {
	last := s.lastTime()
	switch r.Intn(24) {
	case 0:
		return []int{math.MinInt, -1, 0, late - s.window, late - s.window + 1, late, late + 1, math.MaxInt}[r.Intn(8)]
	case 1:
		return last - 1
	case 2, 3:
		return last
	}
	return last + r.Intn(8)
}

// deadline is about that of a pending one, if there is one.
func (r *script) deadline(s *said) int {
	l := s.of(isPending)
	if len(l) == 0 {
		return r.time(s)
	}
	return l[r.Intn(min(len(l), 3))].Deadline + r.Intn(4) - 1
}

// number is mostly that of a pending one, now and then one that was given or will be, or none.
func (r *script) number(s *said) int {
	l := s.of(isPending)
	switch k := r.Intn(12); {
	case k == 0:
		return r.Intn(len(s.all) + 3)
	case k == 1:
		return []int{math.MinInt, -1, 0, math.MaxInt}[r.Intn(4)]
	case len(l) == 0:
		return 1
	case k < 5:
		return l[len(l)-1].Number
	case k < 8:
		return l[0].Number
	}
	return l[r.Intn(len(l))].Number
}

// commit is mostly one that may stand behind the top.
func (r *script) commit(s *said) api.Commit {
	top := s.top()
	c := at(top.Count+1+r.Intn(3), top.Leaves+r.Intn(2))
	switch r.Intn(20) {
	case 0:
		c.Count = []int{math.MinInt, -1, 0, top.Count, top.Count - 1, full, full + 1, math.MaxInt}[r.Intn(8)]
	case 1:
		c.Leaves = []int{math.MinInt, -1, 0, top.Leaves - 1, full, full + 1, math.MaxInt}[r.Intn(7)]
	case 2:
		c.Count = top.Count + 1023 + r.Intn(3)
	}
	return c
}

func (r *script) inbox(c api.Commit) int {
	if r.Intn(16) == 0 {
		return []int{math.MinInt, -1, 0, c.Count - 1, math.MaxInt}[r.Intn(5)]
	}
	return c.Count + r.Intn(2)
}

// call draws one. Windows of which some are never over: so there are ladders that become full.
func (r *script) call(s *said) call {
	switch k := r.Intn(20); {
	case k < 8:
		c := r.commit(s)
		return post(c, someone(byte(r.Intn(4))), r.inbox(c), r.time(s))
	case k < 12:
		if now := r.deadline(s); r.Intn(4) > 0 && now < late/4 {
			return confirm(now)
		}
		return confirm(r.time(s))
	case k < 13:
		return drop(r.number(s))
	case k < 16:
		if r.Intn(3) == 0 {
			return hold(r.number(s), r.deadline(s))
		}
		return hold(r.number(s), r.time(s))
	}
	return release(r.number(s))
}

// copy puts a copy of a ladder beside the others, or in the place of one; or a new one there, so that not all become old.
func (r *script) copy(t testing.TB, b both) {
	next := b.copied()
	if r.Intn(4) == 0 {
		next = r.begun(t)
	}
	if len(r.all) < 6 {
		r.all = append(r.all, next)
	} else {
		r.all[r.Intn(6)] = next
	}
}

// step makes one call, writes over what it answered, and tells it.
func (r *script) step(t testing.TB, what string) (call, api.Errno) {
	b := r.one()
	c := r.call(b.said)
	got := b.do(t, what, c)
	scribble(got.list)
	if r.Intn(10) == 0 {
		scribble(b.ladder.Pending())
	}
	if r.Intn(60) == 0 {
		r.copy(t, b)
	}
	return c, got.e
}

func steps(n int) int {
	if testing.Short() {
		return n / 10
	}
	return n
}

// Long scripts of all calls over several ladders and their copies; all that is told is asked behind each call, and of all ladders now and then.
func TestLongScripts(t *testing.T) {
	seen := map[string]int{}
	for seed := range 7 {
		r := newScript(t, seed)
		for i := range steps(2000) {
			what := fmt.Sprint("script ", seed, ", step ", i)
			c, e := r.step(t, what)
			seen[fmt.Sprint(c.name, " ", int(e))]++
			if i%50 == 0 {
				for j, b := range r.all {
					b.wantTold(t, fmt.Sprint(what, ", ladder ", j))
				}
			}
			if t.Failed() {
				return
			}
		}
	}
	for _, x := range []string{
		"Post 0", "Post 161", "Post 162", "Post 163", "Post 168", "Confirm 0", "Confirm 164", "Confirm 165", "Confirm 166", "Confirm 168",
		"Drop 0", "Drop 164", "Hold 0", "Hold 164", "Hold 167", "Hold 168", "Release 0", "Release 164", "Release 166",
	} {
		if seen[x] < 20 && !testing.Short() {
			t.Errorf("%s came %d times", x, seen[x])
		}
	}
}

// wantRising asks for what always holds of a ladder.
func wantRising(t testing.TB, what string, l *Ladder) {
	t.Helper()
	ahead, number := l.Confirmed(), 0
	list := l.Pending()
	for _, p := range list {
		c := p.Commit
		if c.Count <= ahead.Count || c.Count > ahead.Count+1024 || c.Leaves < ahead.Leaves || p.Number <= number {
			t.Errorf("%s: behind %d, %+v: %+v", what, number, ahead, p)
		}
		ahead, number = c, p.Number
	}
	if len(list) > 32 {
		t.Errorf("%s: %d are pending", what, len(list))
	}
}

// Of the ladder alone: counts and numbers rise, leaves do not fall, and Confirmed never falls.
func TestP16_8_Rising(t *testing.T) {
	most := 0
	for seed := range 6 {
		r := newScript(t, 100+seed)
		b := r.one()
		for i := range steps(6000) {
			ahead := b.ladder.Confirmed()
			c := r.call(b.said)
			c.inLadder(b.ladder)
			c.inWords(b.said)
			what := fmt.Sprint("script ", seed, ", step ", i, ", ", c)
			wantRising(t, what, b.ladder)
			now := b.ladder.Confirmed()
			if now.Count < ahead.Count || now.Leaves < ahead.Leaves || now != ahead && c.name != "Confirm" {
				t.Errorf("%s: Confirmed was %+v, and is %+v", what, ahead, now)
			}
			most = max(most, len(b.ladder.Pending()))
			if b.said.lastTime() > late/2 || r.Intn(1500) == 0 { // else it would stay there
				b = r.begun(t)
			}
			if t.Failed() {
				return
			}
		}
	}
	if most != 32 && !testing.Short() {
		t.Errorf("there were never more than %d pending", most)
	}
}

// fates keeps, by the answers alone, what was posted under each number and what became of it.
type fates struct {
	window   int
	posted   map[int]api.Pending
	ended    map[int]int
	confirms map[int]int
}

func newFates(window int) *fates {
	return &fates{window, map[int]api.Pending{}, map[int]int{}, map[int]int{}}
}

func (f *fates) see(t testing.TB, what string, c call, a answer) {
	t.Helper()
	if a.e != 0 {
		return
	}
	switch c.name {
	case "Post":
		if _, there := f.posted[a.number]; there || a.number != len(f.posted)+1 {
			t.Errorf("%s: number %d is given behind %d others", what, a.number, len(f.posted))
		}
		f.posted[a.number] = api.Pending{Number: a.number, Commit: c.commit, Poster: c.by, Posted: c.now, Deadline: c.now + f.window}
	case "Confirm":
		if a.one != f.posted[a.one.Number] || c.now < a.one.Deadline || c.now-a.one.Posted < f.window {
			t.Errorf("%s: %+v is confirmed, %+v was posted", what, a.one, f.posted[a.one.Number])
		}
		f.ended[a.one.Number]++
		f.confirms[a.one.Number]++
	case "Drop":
		for _, p := range a.list {
			p.Duels = 0
			if p != f.posted[p.Number] {
				t.Errorf("%s: %+v is dropped, %+v was posted", what, p, f.posted[p.Number])
			}
			f.ended[p.Number]++
		}
	}
}

// wantOnce holds what has ended, and what is pending, against what was posted.
func (f *fates) wantOnce(t testing.TB, what string, l *Ladder) {
	t.Helper()
	pending := map[int]int{}
	for _, p := range l.Pending() {
		pending[p.Number]++
	}
	for n := range f.posted {
		if f.ended[n]+pending[n] != 1 {
			t.Errorf("%s: number %d has ended %d times, and is pending %d times", what, n, f.ended[n], pending[n])
		}
	}
	if len(f.ended)+len(pending) != len(f.posted) {
		t.Errorf("%s: %d have ended, %d are pending, %d were posted", what, len(f.ended), len(pending), len(f.posted))
	}
}

func TestP16_9_Once(t *testing.T) {
	for seed := range 6 {
		r := newScript(t, 200+seed)
		window := []int{1, 3, 20, 20, 100, 500}[seed]
		b := newBoth(t, at(2, 1), window)
		f := newFates(window)
		for i := range steps(4000) {
			c := r.call(b.said)
			if c.now > late/4 && c.now <= late { // else the script would stay there
				continue
			}
			what := fmt.Sprint("script ", seed, ", step ", i, ", ", c)
			a := c.inLadder(b.ladder)
			c.inWords(b.said)
			f.see(t, what, c, a)
			if i%20 == 0 {
				f.wantOnce(t, what, b.ladder)
			}
			if t.Failed() {
				return
			}
		}
		f.wantOnce(t, "at last", b.ladder)
		if confirmed := len(f.confirms); !testing.Short() && (confirmed < 20 || len(f.ended) < confirmed+20) {
			t.Errorf("script %d: of %d numbers %d have ended, %d by Confirm", seed, len(f.posted), len(f.ended), confirmed)
		}
	}
}

// From wherever a script has come to: what nothing holds is confirmed at its Deadline, one behind the other, and not a second earlier.
func TestP16_10_ConfirmedAtItsDeadline(t *testing.T) {
	confirmed := 0
	for seed := range steps(300) {
		r := newScript(t, 300+seed)
		for range 60 {
			b := r.one()
			c := r.call(b.said)
			c.inLadder(b.ladder)
			c.inWords(b.said)
		}
		for _, b := range r.all {
			confirmed += wantAllConfirmed(t, fmt.Sprint("script ", seed), b)
		}
	}
	if confirmed < steps(300) {
		t.Errorf("only %d were confirmed", confirmed)
	}
}

func wantAllConfirmed(t testing.TB, what string, b both) int {
	t.Helper()
	last := b.said.lastTime()
	list := b.ladder.Pending()
	for _, p := range list {
		for range p.Duels {
			if _, e := b.ladder.Confirm(late); e != api.ErrLadderHeld {
				t.Fatalf("%s: Confirm of one that is held: %d", what, int(e))
			}
			if e := b.ladder.Release(p.Number); e != 0 {
				t.Fatalf("%s: Release(%d): %d", what, p.Number, int(e))
			}
		}
		if p.Duels = 0; p.Deadline > last {
			if _, e := b.ladder.Confirm(p.Deadline - 1); e != api.ErrLadderEarly {
				t.Fatalf("%s: Confirm one second early: %d", what, int(e))
			}
		}
		last = max(last, p.Deadline)
		if got, e := b.ladder.Confirm(last); got != p || e != 0 {
			t.Fatalf("%s: Confirm(%d): %+v, %d, not %+v", what, last, got, int(e), p)
		}
		if b.ladder.Confirmed() != p.Commit {
			t.Fatalf("%s: Confirmed is %+v", what, b.ladder.Confirmed())
		}
	}
	if len(b.ladder.Pending()) != 0 {
		t.Errorf("%s: some are pending still", what)
	}
	return len(list)
}

// What is asked in between, and copies that are made, turn no answer.
func TestR5_SameCallsSameAnswers(t *testing.T) {
	r := newScript(t, 5)
	b := newBoth(t, at(2, 1), 20)
	other, _ := New(at(2, 1), 20)
	for i := range steps(3000) {
		c := r.call(b.said)
		c.inWords(b.said)
		one := c.inLadder(b.ladder)
		b.said.differ(b.ladder)
		confirm(late).inLadder(b.ladder.Copy())
		if two := c.inLadder(other); !one.same(two) {
			t.Fatalf("step %d, %v: %v and %v", i, c, one, two)
		}
	}
	if !slices.Equal(b.ladder.Pending(), other.Pending()) {
		t.Error("what is pending differs")
	}
	b.wantTold(t, "asked all the way")
	both{other, b.said}.wantTold(t, "never asked")
}

// callOf makes a call of some bytes: which one, of which number, at which time, with which counts.
func callOf(s *said, x []byte) call {
	last, top := s.lastTime(), s.top()
	numbers := append(numbers(s.of(isPending)), 0, -1, 1, len(s.all), len(s.all)+1)
	n := numbers[int(x[1])%len(numbers)]
	now := last + int(x[2]&31) - 1
	switch x[2] >> 5 {
	case 6: // about a deadline
		p, _ := s.find(n)
		now = p.Deadline + int(x[2]&3) - 1
	case 7:
		now = []int{math.MinInt, -1, 0, late - s.window, late - s.window + 1, late, late + 1, math.MaxInt}[x[2]&7]
	}
	switch x[0] >> 2 & 7 {
	case 1:
		return confirm(now)
	case 2:
		return drop(n)
	case 3:
		return hold(n, now)
	case 4:
		return release(n)
	}
	c := at(top.Count+int(x[1]&7), top.Leaves+int(x[1]>>3&3)-1)
	switch x[3] & 7 {
	case 6:
		c.Count += 1020
	case 7:
		c.Count = []int{math.MinInt, -1, full, full + 1, math.MaxInt, 0, 1, 2}[x[3]>>3&7]
	}
	return post(c, someone(x[1]), c.Count+int(x[3]>>6)-1, now)
}

func FuzzAgainstTheWords(f *testing.F) {
	f.Add([]byte("\x00\x09\x01\x40\x00\x09\x05\x40\x04\x00\x1f\x00\x0c\x00\x02\x00\x10\x00\x00\x00\x08\x01\x00\x00"))
	f.Add([]byte("\x00\x09\x01\x40\x01\x00\x00\x00\x0c\x00\xc0\x00\x04\x00\xc1\x00\x08\x00\x00\x00\x00\x0a\x01\x46\x00\x0a\x01\x57"))
	f.Add([]byte("\x00\x09\xe3\x40\x04\x00\xe5\x00\x00\x09\xe4\x40\x01\x00\x00\x00\x00\x09\x00\x40\x10\x00\x00\x00\x02\x00\x01\x00"))
	f.Fuzz(func(t *testing.T, script []byte) {
		all := []both{newBoth(t, at(4, 1), 10)}
		for i := 0; len(script) >= 4 && i < 200; i, script = i+1, script[4:] {
			x := script[:4]
			b := all[int(x[0]>>5)%len(all)]
			if x[0]&3 == 1 && len(all) < 8 {
				all = append(all, b.copied())
				continue
			}
			if x[0]&3 == 2 {
				scribble(b.ladder.Pending())
			}
			scribble(b.do(t, fmt.Sprint("step ", i), callOf(b.said, x)).list)
		}
		for i, b := range all {
			b.wantTold(t, fmt.Sprint("at last, ladder ", i))
			wantRising(t, fmt.Sprint("at last, ladder ", i), b.ladder)
		}
	})
}

func BenchmarkPostAndConfirm(b *testing.B) {
	l, _ := New(api.Commit{}, 1)
	i := 0
	for b.Loop() {
		i++
		l.Post(api.Commit{Count: i}, someone(1), i, i)
		l.Confirm(i + 1)
	}
}

func BenchmarkCopy(b *testing.B) {
	x := posted(b, 32).ladder
	for b.Loop() {
		x.Copy()
	}
}
