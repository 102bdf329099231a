package guard

import (
	"bytes"
	"fmt"
	"reflect"
	"slices"
	"testing"

	"causeway/api"
	"causeway/contract"
	"causeway/ladder"
)

// The second reckoning: by the words of the chapter, over entries that are executed anew. Errors and limits are written out, not taken from api.

// common is how many first entries two rows have in common.
func common(a, b []api.Entry) int {
	k := 0
	for k < len(a) && k < len(b) && valueOf(a[k]) == valueOf(b[k]) {
		k++
	}
	return k
}

// value is an entry that can be compared.
type value struct {
	numbers    [4]int
	sender, to api.Address
	amount     api.Wide
	body       string
}

func valueOf(e api.Entry) value {
	return value{[4]int{e.Kind, e.Time, e.Token, e.Gas}, e.Sender, e.To, e.Amount, string(e.Body)}
}

// both is what both have.
func (s *side) both(c *contract.Contract) int { return common(s.entries, inBox(c.Inbox())) }

func (s *side) known(c *contract.Contract, x api.Commit) bool { return x.Count <= s.both(c) }

func (s *side) right(c *contract.Contract, x api.Commit) bool {
	return s.known(c, x) && reflect.DeepEqual(s.commits[x.Count], x)
}

func (s *side) wrong(c *contract.Contract, x api.Commit) bool {
	return s.known(c, x) && !reflect.DeepEqual(s.commits[x.Count], x)
}

func (s *side) assert(c *contract.Contract) ([]byte, api.Errno) {
	top, both := c.Top().Count, s.both(c)
	if top > both {
		return nil, 211
	}
	if top == both || s.wrong(c, c.Confirmed()) {
		return nil, 212
	}
	for _, p := range c.Pending() {
		if s.wrong(c, p.Commit) {
			return nil, 212
		}
	}
	if both > top+1024 {
		both = top + 1024
	}
	return ladder.Bytes(s.commits[both])
}

func (s *side) judge(c *contract.Contract, workers int) ([]api.Verdict, api.Errno) {
	if workers < 1 || workers > 16 {
		return nil, 210
	}
	var l []api.Verdict
	for _, p := range c.Pending() {
		l = append(l, api.Verdict{Number: p.Number, Known: s.known(c, p.Commit), Right: s.right(c, p.Commit)})
	}
	return l, 0
}

// stroke is the stroke, if there is one.
func (s *side) stroke(c *contract.Contract, me api.Address, now int) *api.Op {
	ahead := c.Confirmed()
	for _, p := range c.Pending() {
		if s.right(c, p.Commit) {
			ahead = p.Commit
			continue
		}
		if !s.known(c, p.Commit) || !s.right(c, c.Confirmed()) {
			return nil
		}
		for _, d := range c.Duels() {
			if d.Number == p.Number && d.Challenger == me {
				return s.inDuel(c, d, me, now)
			}
		}
		if now >= p.Deadline {
			return nil
		}
		if p.Commit.Count-ahead.Count <= 32 {
			return &api.Op{Kind: 7, By: me, Number: p.Number, Body: s.shown(ahead.Count, p.Commit.Count)}
		}
		if p.Poster != me {
			return &api.Op{Kind: 8, By: me, Number: p.Number}
		}
		return nil
	}
	return nil
}

func (s *side) inDuel(c *contract.Contract, d api.Duel, me api.Address, now int) *api.Op {
	if now > d.Until {
		return &api.Op{Kind: 12, By: me, Number: d.Number, To: me}
	}
	switch d.State {
	case 2:
		o := &api.Op{Kind: 10, By: me, Number: d.Number}
		if s.right(c, d.Middle) {
			o.Index = 1
		}
		return o
	case 3:
		if d.Low.Count < s.both(c) {
			return &api.Op{Kind: 11, By: me, Number: d.Number, Body: s.shown(d.Low.Count, d.Low.Count+1)}
		}
	}
	return nil
}

func (s *side) watch(c *contract.Contract, me api.Address, now, workers int) ([]api.Op, api.Errno) {
	if now < 0 || now > 4611686018427387904 {
		return nil, 1
	}
	if workers < 1 || workers > 16 {
		return nil, 210
	}
	var l []api.Op
	first := s.stroke(c, me, now)
	if first != nil {
		l = append(l, *first)
	}
	for _, d := range c.Duels() {
		o := api.Op{Kind: 12, By: me, Number: d.Number, To: d.Challenger}
		if now > d.Until && (first == nil || !reflect.DeepEqual(o, *first)) {
			l = append(l, o)
		}
	}
	return l[:min(len(l), 256)], 0
}

func (s *side) defend(c *contract.Contract, me api.Address, now int) ([]api.Op, api.Errno) {
	if now < 0 || now > 4611686018427387904 {
		return nil, 1
	}
	var l []api.Op
	for _, d := range c.Duels() {
		if d.Defender != me {
			continue
		}
		switch middle := (d.Low.Count + d.High.Count) / 2; {
		case d.State == 1 && now <= d.Until && middle <= s.both(c):
			l = append(l, api.Op{Kind: 9, By: me, Number: d.Number, To: d.Challenger, Body: sure(ladder.Bytes(s.commits[middle]))})
		case (d.State == 2 || d.State == 3) && now > d.Until:
			l = append(l, api.Op{Kind: 12, By: me, Number: d.Number, To: d.Challenger})
		}
	}
	return l[:min(len(l), 256)], 0
}

func sameOp(a, b api.Op) bool {
	same := bytes.Equal(a.Body, b.Body) && len(a.Path) == 0 && len(b.Path) == 0
	a.Body, a.Path, b.Body, b.Path = nil, nil, nil, nil
	return same && reflect.DeepEqual(a, b)
}

func sameOps(a, b []api.Op) bool { return slices.EqualFunc(a, b, sameOp) }

// differ tells where the four calls answer something else than the words; nothing, if they do not.
func (w *world) differ(me api.Address, now, workers int) string {
	got, e := Assert(w.n, w.c)
	if wanted, f := w.side.assert(w.c); !bytes.Equal(got, wanted) || e != f {
		return fmt.Sprintf("Assert: %x, %d, not %x, %d", got, int(e), wanted, int(f))
	}
	verdicts, e := Judge(w.n, w.c, workers)
	if wanted, f := w.side.judge(w.c, workers); !slices.Equal(verdicts, wanted) || e != f {
		return fmt.Sprintf("Judge by %d: %v, %d, not %v, %d", workers, verdicts, int(e), wanted, int(f))
	}
	ops, e := Watch(w.n, w.c, me, now, workers)
	if wanted, f := w.side.watch(w.c, me, now, workers); !sameOps(ops, wanted) || e != f {
		return fmt.Sprintf("Watch of %x at %d by %d: %s, %d, not %s, %d", me[:2], now, workers, textOf(ops...), int(e), textOf(wanted...), int(f))
	}
	ops, e = Defend(w.n, w.c, me, now)
	if wanted, f := w.side.defend(w.c, me, now); !sameOps(ops, wanted) || e != f {
		return fmt.Sprintf("Defend of %x at %d: %s, %d, not %s, %d", me[:2], now, textOf(ops...), int(e), textOf(wanted...), int(f))
	}
	return ""
}

// wantWords holds the four calls against the words.
func (w *world) wantWords(t testing.TB, what string, me api.Address, now, workers int) {
	t.Helper()
	if text := w.differ(me, now, workers); text != "" {
		t.Errorf("%s: %s", what, text)
	}
}

// want... hold one call against what is written here, and all of them against the words.

func (w *world) wantAssert(t testing.TB, what string, wanted api.Commit, code api.Errno) {
	t.Helper()
	var text []byte
	if code == 0 {
		text = sure(ladder.Bytes(wanted))
	}
	if got, e := Assert(w.n, w.c); !bytes.Equal(got, text) || e != code || e != 0 && got != nil {
		t.Errorf("%s: Assert: %x, %d, not %x, %d", what, got, int(e), text, int(code))
	}
	w.wantWords(t, what, wes, w.c.Now(), 2)
}

func (w *world) wantJudge(t testing.TB, what string, wanted ...api.Verdict) {
	t.Helper()
	for _, workers := range []int{1, 2, 3, 16} {
		if got, e := Judge(w.n, w.c, workers); !slices.Equal(got, wanted) || e != 0 {
			t.Errorf("%s: Judge by %d: %v, %d, not %v", what, workers, got, int(e), wanted)
		}
		w.wantWords(t, what, wes, w.c.Now(), workers)
	}
}

func (w *world) wantWatch(t testing.TB, what string, me api.Address, now int, wanted ...api.Op) {
	t.Helper()
	for _, workers := range []int{1, 2, 3, 16} {
		if got, e := Watch(w.n, w.c, me, now, workers); !sameOps(got, wanted) || e != 0 {
			t.Errorf("%s: Watch of %x at %d by %d: %s, %d, not %s", what, me[:2], now, workers, textOf(got...), int(e), textOf(wanted...))
		}
	}
	w.wantWords(t, what, me, now, 4)
}

func (w *world) wantDefend(t testing.TB, what string, me api.Address, now int, wanted ...api.Op) {
	t.Helper()
	if got, e := Defend(w.n, w.c, me, now); !sameOps(got, wanted) || e != 0 {
		t.Errorf("%s: Defend of %x at %d: %s, %d, not %s", what, me[:2], now, textOf(got...), int(e), textOf(wanted...))
	}
	w.wantWords(t, what, me, now, 4)
}
