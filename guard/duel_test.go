package guard

import (
	"fmt"
	"reflect"
	"slices"
	"testing"
	"unsafe"

	"causeway/api"
	"causeway/contract"
	"causeway/digest"
	"causeway/duel"
	"causeway/node"
	"causeway/sparse"
	"causeway/store"
)

// down lets a duel of a challenger come down to where its low commit has a count: the defender splits by our commits below where it is wrong, and by lies above it, and the challenger picks rightly. wrong is the first count that is wrong.
func (w *world) down(t testing.TB, now, number, wrong int, who api.Address, until func(api.Duel) bool) *world {
	t.Helper()
	for range 30 {
		d := w.duel(t, number, who)
		if until(d) {
			return w
		}
		switch k := (d.Low.Count + d.High.Count) / 2; {
		case d.State == 1 && k < wrong:
			w.do(t, now, split(d.Defender, number, who, w.ours(k)))
		case d.State == 1:
			w.do(t, now, split(d.Defender, number, who, w.other(k)))
		case d.State == 2 && d.Middle.Count < wrong:
			w.do(t, now, pick(who, number, 1))
		case d.State == 2:
			w.do(t, now, pick(who, number, 0))
		}
	}
	t.Fatalf("the duel does not come there: %+v", w.duel(t, number, who))
	return w
}

func inState(state int) func(api.Duel) bool {
	return func(d api.Duel) bool { return d.State == state }
}

// A duel of mine, in each state, at its Until and one above it; wherever the assertion comes to be wrong.
func TestP21_3_DuelOfMine(t *testing.T) {
	w := newWorld(t, 80)
	for _, first := range []int{0, 3} {
		ops, number := []api.Op{post(bob, w.other(80))}, 1
		if first > 0 {
			ops, number = append([]api.Op{post(ann, w.ours(first))}, ops...), 2
		}
		begun := w.with(t, 100, append(ops, fight(dan, number), fight(wes, number))...)
		begun.wantWatch(t, "split", wes, 100)
		begun.wantWatch(t, "split", wes, 200)
		begun.wantWatch(t, "split, over", wes, 201, expire(wes, number, wes), expire(wes, number, dan))
		for _, wrong := range []int{first + 1, first + 2, 30, 41, 42, 79, 80} {
			what := fmt.Sprint("from ", first, ", wrong from ", wrong, " on")
			// Other duels are left behind at 100, so that what is over is told, too.
			x := begun.with(t, 150).down(t, 150, number, wrong, wes, inState(2))
			for range 9 {
				d := x.duel(t, number, wes)
				index := 0
				if d.Middle.Count < wrong {
					index = 1
				}
				x.wantWatch(t, what+", pick", wes, 200, pick(wes, number, index))
				x.wantWatch(t, what+", pick", wes, 250, pick(wes, number, index), expire(wes, number, dan))
				x.wantWatch(t, what+", pick, over", wes, 251, expire(wes, number, wes), expire(wes, number, dan))
				x.do(t, 150, pick(wes, number, index))
				if x.duel(t, number, wes).State == 3 {
					break
				}
				x.wantWatch(t, what+", split", wes, 250, expire(wes, number, dan))
				x.wantWatch(t, what+", split, over", wes, 251, expire(wes, number, wes), expire(wes, number, dan))
				x.down(t, 150, number, wrong, wes, inState(2))
			}
			if d := x.duel(t, number, wes); d.State != 3 || d.Low.Count != wrong-1 {
				t.Fatalf("%s: the duel is %+v", what, d)
			}
			x.wantWatch(t, what+", prove", wes, 200, prove(wes, number, w.side.shown(wrong-1, wrong)))
			x.wantWatch(t, what+", prove", wes, 250, prove(wes, number, w.side.shown(wrong-1, wrong)), expire(wes, number, dan))
			x.wantWatch(t, what+", prove, over", wes, 251, expire(wes, number, wes), expire(wes, number, dan))
			x.wantWatch(t, what+", another one's alone", cyd, 150, fight(cyd, number))
			x.with(t, 200, prove(wes, number, w.side.shown(wrong-1, wrong))).wantGone(t, what, number)
		}
	}
}

// wantGone wants an assertion, and all behind it, to be pending no more.
func (w *world) wantGone(t testing.TB, what string, number int) {
	t.Helper()
	for _, p := range w.c.Pending() {
		if p.Number >= number {
			t.Errorf("%s: assertion %d is pending still", what, p.Number)
		}
	}
	for _, d := range w.c.Duels() {
		if d.Number >= number {
			t.Errorf("%s: a duel over %d is open still", what, d.Number)
		}
	}
}

// A duel of mine goes on where the assertion could not be struck any more, behind its Deadline, and where its span is short enough for one stroke.
func TestP21_3_DuelAheadOfAll(t *testing.T) {
	w := newWorld(t, 80)
	x := w.with(t, 100, post(bob, w.other(80))).do(t, 1099, fight(wes, 1)).do(t, 1150, split(bob, 1, wes, w.other(40)))
	x.wantWatch(t, "behind the Deadline", wes, 1200, pick(wes, 1, 0))
	x.wantWatch(t, "behind the Deadline, another one", cyd, 1200)
	x = w.with(t, 100, post(bob, w.other(20)), fight(wes, 1))
	x.wantWatch(t, "a short one", wes, 200)
	x.wantWatch(t, "a short one, over", wes, 201, expire(wes, 1, wes))
	x.wantWatch(t, "a short one, another one", cyd, 201, challenge(cyd, 1, w.side.shown(0, 20)), expire(cyd, 1, wes))
	x.do(t, 150, split(bob, 1, wes, w.ours(10))).wantWatch(t, "a short one, to pick", wes, 150, pick(wes, 1, 1))
}

// A Middle that is wrong in one part alone, and one that is right.
func TestP21_3_Middle(t *testing.T) {
	w := newWorld(t, 80)
	x := w.with(t, 100, post(bob, w.other(80)), fight(wes, 1))
	x.with(t, 100, split(bob, 1, wes, w.ours(40))).wantWatch(t, "right", wes, 100, pick(wes, 1, 1))
	for k, lie := range w.side.lies(40) {
		x.with(t, 100, split(bob, 1, wes, lie)).wantWatch(t, fmt.Sprint("lie ", k), wes, 100, pick(wes, 1, 0))
	}
}

// opened is a field that is not told, so that it can be written by force.
func opened(of any, field string) reflect.Value {
	v := reflect.ValueOf(of).Elem().FieldByName(field)
	return reflect.NewAt(v.Type(), unsafe.Pointer(v.UnsafeAddr())).Elem()
}

// forced is a world in which the first open duel stands by force as no call lets it stand.
func (w *world) forced(t testing.TB, turn func(*api.Duel)) *world {
	t.Helper()
	x := w.with(t, w.c.Now())
	fights := opened(x.c, "fights")
	first := fights.Index(0).Interface().(*duel.Duel).Copy() // contracts share their duels
	stands := opened(first, "stands").Interface().(api.Duel)
	turn(&stands)
	opened(first, "stands").Set(reflect.ValueOf(stands))
	list := reflect.MakeSlice(fights.Type(), fights.Len(), fights.Len())
	reflect.Copy(list, fights)
	list.Index(0).Set(reflect.ValueOf(first))
	fights.Set(list)
	if got := x.c.Duels()[0]; got != stands {
		t.Fatalf("the duel stands as %+v", got)
	}
	return x
}

// A duel over what is known has nothing in it that is not: so it is laid there by force. What the node has behind what both have does not count.
func TestP21_3_WhatIsNotKnown(t *testing.T) {
	w := newWorld(t, 80)
	split := w.with(t, 100, post(bob, w.other(60)), fight(wes, 1), split(bob, 1, wes, w.ours(30)))
	other := append([]api.Op{send(dan, 200)}, lines(30)...)
	x := split.seen(t, 60, other...)
	for _, count := range []int{0, 30, 59, 60, 61, 65, 90, 91, 92, full} {
		middle := api.Commit{Count: count}
		if count < len(x.side.commits) {
			middle = x.ours(count)
		}
		index := 0
		if count <= 60 {
			index = 1
		}
		y := split.forced(t, func(d *api.Duel) { d.Middle = middle })
		(&world{y.c, x.n, x.side}).wantWatch(t, fmt.Sprint("the middle has ", count), wes, 150, pick(wes, 1, index))
	}
	for _, count := range []int{0, 30, 58, 59, 60, 61, 65, 89, 90, 91, full} {
		y := split.forced(t, func(d *api.Duel) {
			d.State, d.Middle, d.Low.Count, d.High.Count = 3, api.Commit{}, count, count+1
		})
		var wanted []api.Op
		if count < 60 {
			wanted = []api.Op{prove(wes, 1, x.side.shown(count, count+1))}
		}
		(&world{y.c, x.n, x.side}).wantWatch(t, fmt.Sprint("the low one has ", count), wes, 150, wanted...)
	}
}

// crowded is a node in whose store, by force, other digests stand beside those of some keys, at so many depths: so what is beside these keys takes many bytes to tell.
func crowded(t testing.TB, n *node.Node, keys []string, depths int) {
	t.Helper()
	table := opened(n, "table").Interface().(*store.Table)
	table.Root() // now the digests are there
	values, digests := opened(table, "values").Interface().(map[string][]byte), opened(table, "digests").Interface().(*sparse.Map)
	for _, key := range keys {
		at := digest.Sum([]byte(key))
		for bit := range depths {
			beside := at
			beside[bit/8] ^= 128 >> (bit % 8)
			digests.Put(beside, digest.Sum(beside[:]))
			values[string(beside[:])] = []byte{1} // a table's keys and digests are as many
		}
	}
	if digests.Len() != len(values) {
		t.Fatalf("%d digests, %d keys", digests.Len(), len(values))
	}
}

// Where a witness of at most MaxReplay entries has too many bytes, a duel is opened as of a longer span. No ledger that is known comes to that, so the store is filled by force.
func TestP21_3_BytesAreRefused(t *testing.T) {
	loop := program("arg 0", "again:", "dup 0", "load", "pop", "push 1", "add", "jump again")
	w := &world{c: sure(contract.New(usual())), n: node.New(zed), side: newSide(zed)}
	w.do(t, 1, written(bob, api.Letter{Kind: api.LetterCode, Code: loop}))
	for i := range 40 {
		w.do(t, 1, written(bob, api.Letter{Kind: api.LetterCall, Number: 1, Gas: 10000, Args: []api.Wide{of(uint64(1000 * i))}}))
	}
	w.follow(t)
	x := w.with(t, 5, post(bob, w.ours(2)), post(bob, w.other(34)))
	x.wantWatch(t, "a store as it is", wes, 5, challenge(wes, 2, w.side.shown(2, 34)))

	var keys []string
	for _, p := range sure(w.n.Witness(2, 34)).Pairs {
		keys = append(keys, p.Key)
	}
	if len(keys) < 1000 {
		t.Fatalf("%d keys are touched", len(keys))
	}
	crowded(t, w.n, keys, 60)
	for _, workers := range []int{1, 16} {
		for me, wanted := range map[api.Address][]api.Op{wes: {fight(wes, 2)}, dan: {fight(dan, 2)}, bob: nil} {
			if got, e := Watch(w.n, x.c, me, 5, workers); e != 0 || !sameOps(got, wanted) {
				t.Errorf("Watch of %x: %s, %d", me[:2], textOf(got...), int(e))
			}
			if got, e := Watch(w.n, x.c, me, 1005, workers); e != 0 || len(got) != 0 {
				t.Errorf("Watch of %x, late: %s, %d", me[:2], textOf(got...), int(e))
			}
		}
	}
	// Of one entry it fits all the same.
	y := w.with(t, 5, post(bob, w.ours(2)), post(bob, w.other(3)))
	if got, e := Watch(w.n, y.c, wes, 5, 2); e != 0 || len(got) != 1 || got[0].Kind != 7 || len(got[0].Body) < 100000 {
		t.Errorf("Watch, of one entry: %s, %d", textOf(got...), int(e))
	}
}

// What is over: none, one, several, over whatever assertion, and whoever is in it, in the order of the duels.
func TestP21_3_WhatIsOver(t *testing.T) {
	w := newWorld(t, 80)
	x := w.with(t, 100, post(ann, w.ours(10)), post(bob, w.ours(40)), post(cyd, w.ours(75)))
	x.wantWatch(t, "no duels", wes, late)
	x.do(t, 100, fight(dan, 2), fight(wes, 3), fight(wes, 1))
	x.do(t, 110, fight(dan, 1), fight(cyd, 2)).do(t, 120, fight(bob, 3), fight(ann, 2))
	for _, me := range []api.Address{wes, dan, ann, oda} {
		x.wantWatch(t, "peace", me, 200)
		x.wantWatch(t, "some", me, 201, expire(me, 1, wes), expire(me, 2, dan), expire(me, 3, wes))
		x.wantWatch(t, "some", me, 210, expire(me, 1, wes), expire(me, 2, dan), expire(me, 3, wes))
		x.wantWatch(t, "more", me, 211, expire(me, 1, dan), expire(me, 1, wes), expire(me, 2, cyd), expire(me, 2, dan), expire(me, 3, wes))
		x.wantWatch(t, "all", me, 221, expire(me, 1, dan), expire(me, 1, wes), expire(me, 2, ann), expire(me, 2, cyd), expire(me, 2, dan), expire(me, 3, bob), expire(me, 3, wes))
	}
	// Whoever's turn it is.
	x.do(t, 150, split(bob, 2, dan, w.ours(25))).do(t, 160, split(bob, 2, cyd, w.ours(25)), pick(cyd, 2, 1))
	x.wantWatch(t, "in all states", wes, 251, expire(wes, 1, dan), expire(wes, 1, wes), expire(wes, 2, ann), expire(wes, 2, dan), expire(wes, 3, bob), expire(wes, 3, wes))
}

// Noughts are an address like all others: a stroke that has no To ends no duel, and noughts watch, fight and defend.
func TestP21_3_Noughts(t *testing.T) {
	w, none := newWorld(t, 80), api.Address{}
	x := w.with(t, 100, post(bob, w.other(60)), fight(none, 1), fight(dan, 1))
	x.wantWatch(t, "a duel", wes, 201, fight(wes, 1), expire(wes, 1, none), expire(wes, 1, dan))
	x.wantWatch(t, "of noughts", none, 201, expire(none, 1, none), expire(none, 1, dan))
	x.do(t, 150, fight(wes, 1), split(bob, 1, wes, w.ours(30)))
	x.wantWatch(t, "a pick", wes, 201, pick(wes, 1, 1), expire(wes, 1, none), expire(wes, 1, dan))
	x.down(t, 150, 1, 17, wes, inState(3))
	x.wantWatch(t, "a proof", wes, 201, prove(wes, 1, w.side.shown(16, 17)), expire(wes, 1, none), expire(wes, 1, dan))
	x = w.with(t, 100, post(none, w.other(20)), fight(dan, 1))
	x.wantWatch(t, "a challenge", wes, 150, challenge(wes, 1, w.side.shown(0, 20)))
	x.wantWatch(t, "my own", none, 201, challenge(none, 1, w.side.shown(0, 20)), expire(none, 1, dan))
	x.wantDefend(t, "my own", none, 150, split(none, 1, dan, w.ours(10)))
	y := w.with(t, 100, post(bob, w.other(20)), fight(none, 1))
	y.wantWatch(t, "a challenge", wes, 201, challenge(wes, 1, w.side.shown(0, 20)), expire(wes, 1, none))
	y.wantDefend(t, "against noughts", bob, 150, split(bob, 1, none, w.ours(10)))
}

// crowd opens duels of many over an assertion.
func crowd(number, count int) []api.Op {
	var l []api.Op
	for _, who := range manyOnes(count) {
		l = append(l, fight(who, number))
	}
	return l
}

// No more than MaxOps are told: the stroke ahead of all, and then the first ones that are over.
func TestP21_3_MaxOps(t *testing.T) {
	w := newWorld(t, 80)
	for _, count := range []int{254, 255, 256, 257, 300} {
		x := w.with(t, 100, append([]api.Op{post(bob, w.other(60))}, crowd(1, count)...)...)
		var all []api.Op
		for _, who := range manyOnes(count) {
			all = append(all, expire(wes, 1, who))
		}
		x.wantWatch(t, "no stroke", wes, 1100, all[:min(count, 256)]...)
		x.wantWatch(t, "a stroke", wes, 1099, slices.Insert(all[:min(count, 255):min(count, 255)], 0, fight(wes, 1))...)
		// The stroke ends the last one of all, which does not come a second time.
		last := manyOnes(count)[count-1]
		for i := range all {
			all[i].By = last
		}
		x.wantWatch(t, "the stroke ends one", last, 201, slices.Insert(slices.Clone(all[:min(count-1, 255)]), 0, all[count-1])...)
		x.wantWatch(t, "not over", last, 200)
	}
}

// All that is told is done, stroke by stroke, till nothing is told any more.
func TestP21_3_MaxOps_Done(t *testing.T) {
	w := newWorld(t, 80)
	// Each is to pick, and does not: so the duels are lost, one by one.
	x := w.with(t, 100, append([]api.Op{post(bob, w.ours(60))}, crowd(1, 300)...)...)
	for _, who := range manyOnes(300) {
		x.do(t, 100, split(bob, 1, who, w.ours(30)))
	}
	for _, left := range []int{300, 44, 0} {
		l := sure(Watch(x.n, x.c, wes, 201, 3))
		if len(x.c.Duels()) != left || len(l) != min(left, 256) {
			t.Fatalf("%d duels are open, and %d are told", len(x.c.Duels()), len(l))
		}
		x.do(t, 201, l...)
	}
	if len(x.c.Pending()) != 1 {
		t.Error("the assertion has fallen")
	}
}

// Each row of Defend's table.
func TestP21_4_Defend(t *testing.T) {
	w := newWorld(t, 80)
	x := w.with(t, 100, post(ann, w.ours(3)), post(bob, w.ours(40)), fight(wes, 2))
	x.wantDefend(t, "split", bob, 0, split(bob, 2, wes, w.ours(21)))
	x.wantDefend(t, "split", bob, 100, split(bob, 2, wes, w.ours(21)))
	x.wantDefend(t, "split", bob, 200, split(bob, 2, wes, w.ours(21)))
	x.wantDefend(t, "split, late", bob, 201)
	x.do(t, 200, split(bob, 2, wes, w.ours(21)))
	x.wantDefend(t, "pick", bob, 200)
	x.wantDefend(t, "pick", bob, 300)
	x.wantDefend(t, "pick, over", bob, 301, expire(bob, 2, wes))
	y := x.with(t, 300, pick(wes, 2, 0))
	y.wantDefend(t, "split again", bob, 400, split(bob, 2, wes, w.ours(12)))
	y.wantDefend(t, "split again, late", bob, 401)
	x.do(t, 300, pick(wes, 2, 1))
	x.wantDefend(t, "split again", bob, 400, split(bob, 2, wes, w.ours(30)))
	x.down(t, 310, 2, 28, wes, inState(3))
	x.wantDefend(t, "prove", bob, 410)
	x.wantDefend(t, "prove, over", bob, 411, expire(bob, 2, wes))
	for _, me := range []api.Address{ann, wes, dan, {}} {
		for _, now := range []int{0, 310, 410, 411, late} {
			x.wantDefend(t, "other people's", me, now)
		}
	}
	// What is wrong is defended likewise: by our commits.
	z := w.with(t, 100, post(bob, w.other(40)), fight(wes, 1))
	z.wantDefend(t, "a lie", bob, 100, split(bob, 1, wes, w.ours(20)))
	// Of every span down to two entries: half of it, rounded down.
	for span := 2; span <= 40; span++ {
		w.with(t, 100, post(ann, w.ours(5)), post(bob, w.ours(5+span)), fight(wes, 2)).wantDefend(t, fmt.Sprint(span, " entries"), bob, 100, split(bob, 2, wes, w.ours(5+span/2)))
	}
}

// The middle is told if both have it, and not if the node is behind, or has other entries there.
func TestP21_4_Middle(t *testing.T) {
	w := newWorld(t, 80)
	x := w.with(t, 100, post(ann, w.ours(10)), post(bob, w.ours(41)), fight(wes, 2)) // the middle is 25
	others := append([]api.Op{send(dan, 200)}, lines(60)...)
	for _, first := range []int{0, 9, 10, 24, 25, 26, 40, 41, 80} {
		var wanted []api.Op
		if first >= 25 {
			wanted = []api.Op{split(bob, 2, wes, w.ours(25))}
		}
		x.seen(t, first).wantDefend(t, fmt.Sprint(first, " known"), bob, 150, wanted...)
		x.seen(t, first, others...).wantDefend(t, fmt.Sprint(first, " known, and others"), bob, 150, wanted...)
	}
	// To end what is over nothing needs to be known.
	x.do(t, 150, split(bob, 2, wes, w.ours(25)))
	x.seen(t, 0).wantDefend(t, "nothing is known", bob, 251, expire(bob, 2, wes))
}

// Several duels over several assertions, in all states, of several defenders.
func TestP21_4_Several(t *testing.T) {
	w := newWorld(t, 80)
	x := w.with(t, 100, post(bob, w.ours(20)), post(ann, w.ours(40)), post(bob, w.ours(70)))
	x.do(t, 100, fight(wes, 3), fight(dan, 3), fight(cyd, 3), fight(ann, 1), fight(dan, 1), fight(bob, 2), fight(dan, 2), fight(ann, 3))
	x.do(t, 150, split(bob, 3, cyd, w.ours(55)), split(bob, 1, dan, w.ours(10)), split(ann, 2, bob, w.ours(30)))
	x.do(t, 160, split(bob, 3, ann, w.ours(55)), pick(ann, 3, 1))
	x.wantDefend(t, "in time", bob, 200, split(bob, 1, ann, w.ours(10)), split(bob, 3, ann, w.ours(62)), split(bob, 3, dan, w.ours(55)), split(bob, 3, wes, w.ours(55)))
	x.wantDefend(t, "in time", ann, 200, split(ann, 2, dan, w.ours(30)))
	x.wantDefend(t, "some are late", bob, 250, split(bob, 3, ann, w.ours(62)))
	x.wantDefend(t, "some are over", bob, 251, expire(bob, 1, dan), split(bob, 3, ann, w.ours(62)), expire(bob, 3, cyd))
	x.wantDefend(t, "some are over", ann, 251, expire(ann, 2, bob))
	x.wantDefend(t, "all", bob, 261, expire(bob, 1, dan), expire(bob, 3, cyd))
	x.wantDefend(t, "nobody's", cyd, 200)
}

// No more than MaxOps are told, the first ones; what is told is done, stroke by stroke.
func TestP21_4_MaxOps(t *testing.T) {
	w := newWorld(t, 80)
	for _, count := range []int{255, 256, 257, 300} {
		x := w.with(t, 100, append([]api.Op{post(ann, w.ours(20)), post(bob, w.ours(60)), fight(dan, 1)}, crowd(2, count)...)...)
		var splits, ends []api.Op
		for _, who := range manyOnes(count) {
			splits, ends = append(splits, split(bob, 2, who, w.ours(40))), append(ends, expire(bob, 2, who))
		}
		x.wantDefend(t, "all at once", bob, 150, splits[:min(count, 256)]...)
		x.do(t, 150, splits[:min(count, 256)]...).wantDefend(t, "those that are left", bob, 150, splits[min(count, 256):]...)
		x.do(t, 150, splits[min(count, 256):]...).wantDefend(t, "none", bob, 250)
		x.wantDefend(t, "ends", bob, 251, ends[:min(count, 256)]...)
		x.do(t, 251, ends[:min(count, 256)]...).wantDefend(t, "ends that are left", bob, 251, ends[min(count, 256):]...)
		if got := x.c.Pending(); len(got) != 2 || got[1].Duels != count-min(count, 256) {
			t.Errorf("%d duels: pending are %+v", count, got)
		}
	}
}
