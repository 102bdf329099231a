package courier

import (
	"bytes"
	"reflect"
	"slices"
	"sync"
	"testing"

	"causeway/api"
	"causeway/inbox"
	"causeway/node"
)

// whole is all of a list, its spare room too.
func whole[T any](l []T) []T { return l[:cap(l)] }

// scenes are worlds in which something is told of each kind.
func scenes(t testing.TB) map[string]*world {
	w := newWorld(t, leafy(13)...)
	some := w.with(t, 1).stand(t, w.behind(t, 11)).post(t, w.last())
	for _, index := range []int{0, 5, 10} {
		some.wantClaim(t, "some", dan, 101, index)
	}
	return map[string]*world{
		"nothing is asserted": w,
		"asserted":            w.with(t, 1).post(t, w.behind(t, 3), w.behind(t, 8)),
		"one":                 w.with(t, 1).stand(t, w.behind(t, 1)),
		"confirmed":           w.with(t, 1).stand(t, w.last()),
		"some are paid":       some,
		"a lie is confirmed":  w.with(t, 1).stand(t, turned(w.last())),
		"too many":            w.with(t, 1).stand(t, leaves(w.last(), 99)),
		"a node behind":       some.seen(t, w.behind(t, 4).Count),
		"a node astray":       some.seen(t, w.behind(t, 11).Count, burn(bob, 0, dan, 4)),
		"far":                 w.with(t, 1).payFar(t, full-1),
	}
}

// answers is all that the calls answer.
type answers struct {
	stages []int
	ops    []api.Op
	codes  []api.Errno
	due    []int
}

func (w *world) answers() answers {
	var a answers
	for index := -2; index < 20; index++ {
		s, e := Stage(w.n, w.c, index)
		o, f := Claim(w.n, w.c, bob, index)
		a.stages, a.ops, a.codes = append(a.stages, s), append(a.ops, o), append(a.codes, e, f)
	}
	l, e := Due(w.n, w.c)
	a.due, a.codes = l, append(a.codes, e)
	return a
}

func (a answers) kept() answers {
	a.ops = slices.Clone(a.ops)
	for i, o := range a.ops {
		a.ops[i].Body, a.ops[i].Path = bytes.Clone(o.Body), slices.Clone(o.Path)
	}
	a.due = slices.Clone(a.due)
	return a
}

func (a answers) same(b answers) bool {
	return slices.Equal(a.stages, b.stages) && slices.EqualFunc(a.ops, b.ops, sameOp) && slices.Equal(a.codes, b.codes) && slices.Equal(a.due, b.due)
}

// spoil writes over bodies, paths and lists, their spare room too.
func (a answers) spoil() {
	for _, o := range a.ops {
		for i := range whole(o.Body) {
			whole(o.Body)[i] ^= 255
		}
		for i := range whole(o.Path) {
			whole(o.Path)[i] = api.Digest{9}
		}
	}
	for i := range whole(a.due) {
		whole(a.due)[i] = -7
	}
}

// What is answered may be written over: that is seen neither in the node, nor in the contract, nor in another answer.
func TestR4_Answered(t *testing.T) {
	for what, w := range scenes(t) {
		one := w.answers()
		two, kept := w.answers(), one.kept()
		w.stays(t, what, one.spoil)
		if !two.same(kept) || !w.answers().same(kept) {
			t.Errorf("%s: two answers share something", what)
		}
		w.wantWords(t, what)
	}
}

// Body and Path of one answer share nothing either, and claims of unlike leaves do not.
func TestR4_ListsOfOneAnswer(t *testing.T) {
	for what, w := range scenes(t) {
		a := w.answers()
		kept := a.kept()
		for i, o := range a.ops {
			for k := range whole(o.Body) {
				whole(o.Body)[k] ^= 255
			}
			if !slices.Equal(o.Path, kept.ops[i].Path) {
				t.Errorf("%s: body and path share something", what)
			}
			for k := range whole(o.Path) {
				whole(o.Path)[k] = api.Digest{9}
			}
			if !slices.EqualFunc(a.ops[i+1:], kept.ops[i+1:], sameOp) {
				t.Errorf("%s: claim %d shares something with others", what, i)
			}
		}
	}
}

// The node and the contract are only looked at, by each of the calls.
func TestLookedAt(t *testing.T) {
	for what, w := range scenes(t) {
		for index := -1; index < 15; index++ {
			w.stays(t, what, func() { Stage(w.n, w.c, index) })
			w.stays(t, what, func() { Claim(w.n, w.c, bob, index) })
		}
		w.stays(t, what, func() { Due(w.n, w.c) })
	}
}

// Both go on behind the calls as if nobody had looked.
func TestLookedAt_GoesOn(t *testing.T) {
	for what, w := range scenes(t) {
		w, silent := w.copied(), w.c.Copy()
		w.answers()
		ops := []api.Op{send(ann, 1), list(7), post(bob, api.Commit{Count: w.c.Top().Count + 1, Leaves: full}), confirm(ann), send(bob, 2)}
		for _, o := range append(ops, w.answers().ops...) {
			now := w.c.Now() + 60
			a, b := w.try(now, o), silent.Do(now, o)
			w.answers()
			if !reflect.DeepEqual(a, b) {
				t.Errorf("%s: %s: %+v, and not looked at %+v", what, textOf(o), a, b)
			}
		}
		if !reflect.DeepEqual(tell(w.c), tell(silent)) {
			t.Errorf("%s: the contract has turned", what)
		}
	}
}

// What is answered hangs on what the node and the contract have, not on how they came to it; and a second time all is answered alike.
func TestR5_NoPast(t *testing.T) {
	for what, w := range scenes(t) {
		b := inbox.New()
		for _, e := range w.side.entries {
			sure(b.Add(e))
		}
		fresh := &world{w.c.Copy(), w.paid, node.New(zed), newSide(zed)}
		for _, k := range []int{b.Len(), 3, b.Len() / 2, b.Len()} {
			part := inbox.New()
			for _, e := range w.side.entries[:k] {
				sure(part.Add(e))
			}
			fresh.lead(t, part)
		}
		kept := w.answers()
		if !fresh.answers().same(kept) || !w.answers().same(kept) {
			t.Errorf("%s: the same ones answer something else", what)
		}
	}
}

// Several may ask over the same node and the same contract, side by side.
func TestR5_SideBySide(t *testing.T) {
	for what, w := range scenes(t) {
		wanted := w.answers()
		others := make([]bool, 8)
		var all sync.WaitGroup
		for i := range others {
			all.Go(func() {
				for range 3 {
					others[i] = others[i] || !w.answers().same(wanted)
				}
			})
		}
		all.Wait()
		if slices.Contains(others, true) {
			t.Errorf("%s: something else is answered", what)
		}
	}
}

func BenchmarkDue(b *testing.B) {
	w := newWorld(b, leafy(300)...)
	w.stand(b, w.last())
	for b.Loop() {
		if l, e := Due(w.n, w.c); e != api.OK || len(l) != 300 {
			b.Fatal(e)
		}
	}
}
