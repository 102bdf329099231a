package guard

import (
	"bytes"
	"fmt"
	"reflect"
	"runtime"
	"slices"
	"sync"
	"testing"
	"time"

	"causeway/api"
	"causeway/contract"
	"causeway/ladder"
	"causeway/node"
)

// whole is all of a list, its spare room too.
func whole[T any](l []T) []T { return l[:cap(l)] }

// scenes are worlds in which something is told of each kind, with a time at which it is.
func scenes(t testing.TB) map[string]struct {
	w   *world
	now int
} {
	w := newWorld(t, 80)
	split1 := w.with(t, 100, post(bob, w.other(60)), fight(wes, 1), fight(dan, 1), fight(cyd, 1))
	right := w.with(t, 100, post(bob, w.ours(60)), fight(wes, 1), fight(dan, 1), fight(cyd, 1))
	return map[string]struct {
		w   *world
		now int
	}{
		"nothing":     {w, 5},
		"a challenge": {w.with(t, 100, post(ann, w.ours(5)), post(bob, w.other(20)), post(bob, w.other(25))), 100},
		"a duel":      {w.with(t, 100, post(bob, w.other(60))), 100},
		"ends":        {split1, 201},
		"a pick":      {split1.with(t, 150, split(bob, 1, wes, w.ours(30))), 201},
		"a proof":     {split1.with(t, 150).down(t, 150, 1, 17, wes, inState(3)), 201},
		"splits":      {right, 150},
		"what is over": {right.with(t, 150, split(bob, 1, wes, w.ours(30)), split(bob, 1, dan, w.ours(30))),
			251},
	}
}

// answers is all that the four calls answer.
type answers struct {
	said     []byte
	verdicts []api.Verdict
	watched  []api.Op
	defended []api.Op
}

func (w *world) answers(now int) answers {
	said, _ := Assert(w.n, w.c)
	return answers{said, sure(Judge(w.n, w.c, 3)), sure(Watch(w.n, w.c, wes, now, 3)), sure(Defend(w.n, w.c, bob, now))}
}

func keptOps(l []api.Op) []api.Op {
	l = slices.Clone(l)
	for i := range l {
		l[i].Body = bytes.Clone(l[i].Body)
	}
	return l
}

func (a answers) kept() answers {
	return answers{bytes.Clone(a.said), slices.Clone(a.verdicts), keptOps(a.watched), keptOps(a.defended)}
}

func (a answers) same(b answers) bool {
	return bytes.Equal(a.said, b.said) && slices.Equal(a.verdicts, b.verdicts) && sameOps(a.watched, b.watched) && sameOps(a.defended, b.defended)
}

// spoil writes over all that is answered, its spare room too.
func (a answers) spoil() {
	for i := range whole(a.said) {
		whole(a.said)[i] ^= 255
	}
	for i := range whole(a.verdicts) {
		whole(a.verdicts)[i] = api.Verdict{Number: 99, Known: true, Right: true}
	}
	for _, l := range [][]api.Op{a.watched, a.defended} {
		for i, o := range whole(l) {
			for j := range whole(o.Body) {
				whole(o.Body)[j] ^= 255
			}
			whole(l)[i] = api.Op{Kind: 99, Body: []byte{1}}
		}
	}
}

// What is answered may be written over: that is seen neither in the node, nor in the contract, nor in another answer.
func TestR4_Answered(t *testing.T) {
	for what, x := range scenes(t) {
		one := x.w.answers(x.now)
		two, kept := x.w.answers(x.now), one.kept()
		x.w.stays(t, what, one.spoil)
		if !two.same(kept) || !x.w.answers(x.now).same(kept) {
			t.Errorf("%s: two answers share something", what)
		}
	}
}

// No two lists of one answer share anything, their spare room neither.
func TestR4_ListsOfOneAnswer(t *testing.T) {
	for what, x := range scenes(t) {
		for _, l := range [][]api.Op{sure(Watch(x.w.n, x.w.c, wes, x.now, 2)), sure(Defend(x.w.n, x.w.c, bob, x.now))} {
			kept := keptOps(l)
			for i := range l {
				for j := range whole(l[i].Body) {
					whole(l[i].Body)[j] ^= 255
				}
				if !sameOps(l[i+1:], kept[i+1:]) {
					t.Errorf("%s: the body of operation %d shares something", what, i)
				}
			}
		}
	}
}

// Fields that the operation does not use are zero, and each may be an operation.
func TestP21_3_Fields(t *testing.T) {
	seen := map[int]int{}
	for what, x := range scenes(t) {
		a := x.w.answers(x.now)
		for _, o := range append(keptOps(a.watched), a.defended...) {
			seen[o.Kind]++
			if e := contract.Check(o); e != 0 || o.Path != nil || o.Kind != 7 && o.Kind != 9 && o.Kind != 11 && len(o.Body) != 0 {
				t.Errorf("%s: %s: %d", what, textOf(o), int(e))
			}
		}
	}
	for kind := 7; kind <= 12; kind++ {
		if seen[kind] == 0 {
			t.Errorf("kind %d is not told", kind)
		}
	}
}

// The node and the contract are only looked at.
func TestLookedAt(t *testing.T) {
	for what, x := range scenes(t) {
		x.w.stays(t, what, func() {
			x.w.answers(x.now)
			for _, workers := range []int{-1, 0, 1, 16, 17} {
				Judge(x.w.n, x.w.c, workers)
				Watch(x.w.n, x.w.c, wes, x.now, workers)
				Watch(x.w.n, x.w.c, wes, -1, workers)
			}
			Defend(x.w.n, x.w.c, bob, late+1)
		})
	}
}

// Both go on behind the calls as if nobody had looked.
func TestLookedAt_GoesOn(t *testing.T) {
	for what, x := range scenes(t) {
		w := x.w.with(t, x.w.c.Now())
		silent := w.c.Copy()
		w.answers(x.now)
		for _, o := range []api.Op{send(ann, 1), post(ann, api.Commit{Count: 70, Leaves: 99}), fight(ann, 1), expire(ann, 1, wes), send(bob, 2)} {
			a, b := w.c.Do(x.now, o), silent.Do(x.now, o)
			w.answers(x.now)
			if !reflect.DeepEqual(a, b) {
				t.Errorf("%s: %s: %+v, and not looked at %+v", what, textOf(o), a, b)
			}
		}
		if !reflect.DeepEqual(tell(w.c), tell(silent)) {
			t.Errorf("%s: the contract has turned", what)
		}
	}
}

// wantNoneLeft waits for goroutines that are about to end, and refuses those that do not.
func wantNoneLeft(t testing.TB, what string, ahead int) {
	t.Helper()
	for range 5000 {
		if runtime.NumGoroutine() <= ahead {
			return
		}
		time.Sleep(time.Millisecond)
	}
	t.Fatalf("%s: %d goroutines, and %d ahead of it", what, runtime.NumGoroutine(), ahead)
}

func TestR5_NoGoroutineIsLeft(t *testing.T) {
	l := scenes(t)
	w := newWorld(t, 40)
	for i := range 32 {
		w.do(t, 5, post(bob, w.side.lies(i + 1)[i%2]))
	}
	l["as many as may be"] = struct {
		w   *world
		now int
	}{w, 5}
	ahead := runtime.NumGoroutine()
	for what, x := range l {
		for _, workers := range []int{-1, 0, 1, 2, 3, 16, 17} {
			Judge(x.w.n, x.w.c, workers)
			wantNoneLeft(t, fmt.Sprint(what, ", Judge by ", workers), ahead)
			Watch(x.w.n, x.w.c, wes, x.now, workers)
			wantNoneLeft(t, fmt.Sprint(what, ", Watch by ", workers), ahead)
			Watch(x.w.n, x.w.c, wes, -1, workers)
			Judge(nil, x.w.c, workers)
			wantNoneLeft(t, what+", refused", ahead)
		}
		Assert(x.w.n, x.w.c)
		Defend(x.w.n, x.w.c, bob, x.now)
		wantNoneLeft(t, what, ahead)
	}
}

// Several may ask over the same node and the same contract, side by side.
func TestR5_SideBySide(t *testing.T) {
	for what, x := range scenes(t) {
		wanted := x.w.answers(x.now)
		texts := make([]string, 8)
		var all sync.WaitGroup
		for i := range texts {
			all.Go(func() {
				for range 5 {
					if !x.w.answers(x.now).same(wanted) {
						texts[i] = "something else is answered"
					}
				}
			})
		}
		all.Wait()
		for i, text := range texts {
			if text != "" {
				t.Errorf("%s, goroutine %d: %s", what, i, text)
			}
		}
	}
}

// Each of so many is judged once, at its place, by however many workers.
func TestJudgeAll(t *testing.T) {
	w := newWorld(t, 40)
	s := see(w.n, w.c)
	for count := range 70 {
		var l []api.Pending
		var wanted []api.Verdict
		for i := range count {
			k := i * 7 % 50
			c, right := api.Commit{Count: k}, false
			if k <= 40 && i%3 > 0 {
				c, right = w.ours(k), true
			}
			l, wanted = append(l, api.Pending{Number: 3 * i, Commit: c}), append(wanted, api.Verdict{Number: 3 * i, Known: k <= 40, Right: right})
		}
		for workers := 1; workers <= 16; workers++ {
			if got := s.judgeAll(l, workers); !slices.Equal(got, wanted) {
				t.Errorf("%d by %d: %v, not %v", count, workers, got, wanted)
			}
		}
	}
}

// Nodes and contracts that nobody made with New are no reason to panic.
func TestR1_Zero(t *testing.T) {
	w := newWorld(t, 40).with(t, 5, post(bob, api.Commit{Count: 40}))
	for _, n := range []*node.Node{{}, w.n} {
		for _, c := range []*contract.Contract{{}, w.c} {
			Assert(n, c)
			Judge(n, c, 3)
			Watch(n, c, wes, 5, 3)
			Defend(n, c, wes, 5)
		}
	}
	if v, e := Judge(&node.Node{}, w.c, 3); e != 0 || !slices.Equal(v, []api.Verdict{{Number: 1}}) {
		t.Errorf("Judge by an empty node: %v, %d", v, int(e))
	}
}

// What is answered goes on over bytes: an assertion as the ladder reads it.
func TestP21_1_Bytes(t *testing.T) {
	w := newWorld(t, 40)
	b := sure(Assert(w.n, w.c))
	if c, e := ladder.Read(b); e != 0 || c != w.ours(40) || b[0] != 65 {
		t.Errorf("Assert: %x", b)
	}
}

func BenchmarkWatch(b *testing.B) {
	w := newWorld(b, 80)
	w.do(b, 5, post(bob, w.other(30)))
	for b.Loop() {
		if l, e := Watch(w.n, w.c, wes, 5, 4); e != api.OK || len(l) != 1 {
			b.Fatal(e)
		}
	}
}
