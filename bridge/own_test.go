package bridge

import (
	"bytes"
	"fmt"
	"runtime"
	"slices"
	"sync"
	"testing"
	"time"

	"causeway/api"
)

// room is all of a list, its spare room too.
func room[T any](l []T) []T { return l[:cap(l)] }

// number is that of the assertion that is pending last.
func (x *both) number(t testing.TB) int {
	t.Helper()
	l := x.said.contract.Pending()
	if len(l) == 0 {
		t.Fatal("nothing is pending")
	}
	return l[len(l)-1].Number
}

// story is a row of orders of every kind, most of which do something, and some of which are refused, as bytes.
func story(t testing.TB) [][]byte {
	t.Helper()
	x := grown(t, 40)
	x.ahead(t, lookAt(0), assertAt(2, ann), blockAt(2, letters(12)...), followBy(4), lookAt(0))
	x.ahead(t, blockAt(3, post(bob, x.lie(t, 50))), watchAt(3, wes, 2), watchAt(3, wes, 2))
	x.ahead(t, blockAt(102, confirm(dan)), claimAt(102, dan, 0), claimAt(102, dan, 3), blockAt(103, letters(40)...), cutOf(1), blockAt(103, letters(37)...), followBy(16))
	for _, o := range []api.Order{claimAt(103, ann, 0), claimAt(103, ann, 999), blockAt(3), cutOf(9), followBy(17), watchAt(104, wes, 0), defendAt(late+1, ann)} {
		x.do(t, "refused", o)
	}
	x.raw(t, "no order", []byte{1, 2, 3})
	x.ahead(t, blockAt(104, post(bob, x.lie(t, 94))), watchAt(105, wes, 3))
	x.ahead(t, blockAt(105, fight(cyd, x.number(t))))
	for len(x.said.contract.Duels()) > 0 {
		for _, d := range x.said.contract.Duels() {
			if d.State == 1 {
				x.ahead(t, blockAt(106, split(bob, d.Number, d.Challenger, x.lie(t, (d.Low.Count+d.High.Count)/2))))
			}
		}
		x.ahead(t, watchAt(106, wes, 7))
	}
	x.ahead(t, assertAt(107, ann))
	number := x.number(t)
	x.ahead(t, blockAt(107, fight(dan, number)), defendAt(108, ann), blockAt(109, pick(dan, number, 1)), defendAt(110, ann), watchAt(121, wes, 1), blockAt(210, confirm(ann)))
	for index := range 9 {
		x.do(t, "look", lookAt(index))
		x.do(t, "claim", claimAt(210+index, dan, index))
	}
	x.ahead(t, cutOf(2), followBy(1), lookAt(8), blockAt(300, letters(3)...), followBy(3), assertAt(300, cyd))
	x.wantTold(t, "the story")
	return x.told
}

// The story has every kind, and every list of an answer, so that what follows is about something.
func TestStory(t *testing.T) {
	x, seen := newBoth(t, usual()), map[string]int{}
	for _, order := range story(t) {
		a := x.raw(t, "story", order)
		o, _ := readWords(order)
		seen[fmt.Sprintf("order %d %v", o.Kind, a.Code == 0)]++
		for i, op := range a.Ops {
			seen[fmt.Sprint("made ", op.Kind)]++
			seen[fmt.Sprint("made with a body: ", len(op.Body) > 0)]++
			seen[fmt.Sprint("made with a path: ", len(op.Path) > 0)]++
			seen[fmt.Sprint("paid: ", len(a.Results[i].Pays) > 0)]++
		}
		seen[fmt.Sprint("back: ", a.Back > 0)]++
		seen[fmt.Sprint("stage ", a.Stage)]++
	}
	for _, what := range []string{
		"order 1 true", "order 2 true", "order 3 true", "order 4 true", "order 5 true", "order 6 true", "order 7 true", "order 8 true", "order 0 false", "order 1 false", "order 2 false", "order 3 false", "order 5 false", "order 6 false", "order 7 false",
		"made 5", "made 7", "made 8", "made 9", "made 10", "made 11", "made 12", "made 13", "made with a body: true", "made with a path: true", "paid: true", "stage 1", "stage 2", "stage 3", "stage 4",
	} {
		if seen[what] == 0 {
			t.Errorf("%s does not come", what)
		}
	}
}

func keptAnswer(a api.Answer) api.Answer {
	a.Ops, a.Results = keptOps(a.Ops), slices.Clone(a.Results)
	for i, r := range a.Results {
		a.Results[i].Pays = slices.Clone(r.Pays)
	}
	return a
}

// spoilOps writes over operations, with their bodies and paths, spare room too.
func spoilOps(l []api.Op) {
	for i, o := range l {
		for k := range room(o.Body) {
			room(o.Body)[k] ^= 255
		}
		for k := range room(o.Path) {
			room(o.Path)[k] = api.Digest{9}
		}
		l[i] = api.Op{Kind: 77}
	}
	for i := range room(l) {
		room(l)[i] = api.Op{Kind: 78}
	}
}

func spoilResults(l []api.Result) {
	for i, r := range l {
		for k := range room(r.Pays) {
			room(r.Pays)[k] = api.Pay{Why: 79}
		}
		l[i] = api.Result{Code: 80}
	}
	for i := range room(l) {
		room(l)[i] = api.Result{Code: 81}
	}
}

// The order's bytes may be written over behind Do, and so may all that is answered, without being seen in a later answer.
func TestP23_8_WrittenOver(t *testing.T) {
	orders := story(t)
	b, e := New(headerBytes(usual()))
	if e != 0 {
		t.Fatal(e)
	}
	s := newSaid(usual())
	for i, order := range orders {
		handed := append(make([]byte, 0, len(order)+9), order...)
		got, wanted := b.Do(handed), s.do(order)
		if !sameAnswer(got, wanted) {
			t.Fatalf("order %d, %s: %s, not %s", i, textOf(order), textOfAnswer(got), textOfAnswer(wanted))
		}
		if !bytes.Equal(handed, order) || slices.ContainsFunc(room(handed)[len(order):], func(x byte) bool { return x != 0 }) {
			t.Fatalf("order %d, %s, is written into", i, textOf(order))
		}
		for k := range room(handed) {
			room(handed)[k] ^= 255
		}
		spoilOps(got.Ops)
		spoilResults(got.Results)
		if tellParts(b.chain.Contract(), b.node, nil) != tellParts(s.contract, s.node, nil) {
			t.Fatalf("order %d, %s: what is answered is the bridge's own", i, textOf(order))
		}
	}
	x := &both{bridge: b, said: s, told: orders}
	x.wantTold(t, "written over")
}

// No two lists of one answer share anything.
func TestP23_8_ListsOfOneAnswer(t *testing.T) {
	b, e := New(headerBytes(usual()))
	if e != 0 {
		t.Fatal(e)
	}
	for _, order := range story(t) {
		a := b.Do(order)
		wanted := keptAnswer(a)
		for i := range a.Ops {
			for k := range room(a.Ops[i].Body) {
				room(a.Ops[i].Body)[k] ^= 255
			}
			wanted.Ops[i].Body = bytes.Clone(a.Ops[i].Body)
			if !sameAnswer(a, wanted) {
				t.Fatalf("%s: a body shares something", textOf(order))
			}
			for k := range room(a.Ops[i].Path) {
				room(a.Ops[i].Path)[k] = api.Digest{9}
			}
			wanted.Ops[i].Path = slices.Clone(a.Ops[i].Path)
			if !sameAnswer(a, wanted) {
				t.Fatalf("%s: a path shares something", textOf(order))
			}
		}
		for i := range a.Results {
			for k := range room(a.Results[i].Pays) {
				room(a.Results[i].Pays)[k] = api.Pay{Why: 9}
			}
			wanted.Results[i].Pays = slices.Clone(a.Results[i].Pays)
			if !sameAnswer(a, wanted) {
				t.Fatalf("%s: pays share something", textOf(order))
			}
		}
		spoilOps(a.Ops)
		if !slices.EqualFunc(a.Results, wanted.Results, sameResult) {
			t.Fatalf("%s: operations and results share something", textOf(order))
		}
	}
}

// A header that is handed in, and one that is handed out.
func TestR4_Header(t *testing.T) {
	handed := append(make([]byte, 0, 99), headerBytes(usual())...)
	b, e := New(handed)
	if e != 0 || !bytes.Equal(handed, headerBytes(usual())) || slices.ContainsFunc(room(handed)[len(handed):], func(x byte) bool { return x != 0 }) {
		t.Fatalf("New: %d, or its header is written into", int(e))
	}
	for i := range room(handed) {
		room(handed)[i] = 99
	}
	x := &both{bridge: b, said: newSaid(usual())}
	x.ahead(t, blockAt(1, ready()...), followBy(2), assertAt(1, ann))
	one, two := sure(Header(usual())), sure(Header(usual()))
	for i := range room(one) {
		room(one)[i] = 99
	}
	if !bytes.Equal(two, headerBytes(usual())) || !bytes.Equal(sure(Header(usual())), headerBytes(usual())) {
		t.Error("two headers share something")
	}
}

// What Bytes is handed stays, its spare room too, and is not kept; what it answers is new.
func TestR4_Bytes(t *testing.T) {
	for _, o := range samples() {
		wanted := orderBytes(o)
		handed := o
		handed.Ops = append(make([]api.Op, 0, len(o.Ops)+2), o.Ops...)
		for i, op := range handed.Ops {
			handed.Ops[i].Body = append(make([]byte, 0, len(op.Body)+5), op.Body...)
			handed.Ops[i].Path = append(make([]api.Digest, 0, len(op.Path)+5), op.Path...)
		}
		one, two := sure(Bytes(handed)), sure(Bytes(handed))
		if !sameOrder(handed, o) {
			t.Fatalf("%s: Bytes has written into its order", textOf(wanted))
		}
		for i, op := range handed.Ops {
			spare := append(room(op.Body)[len(op.Body):], 0)
			if slices.ContainsFunc(spare, func(x byte) bool { return x != 0 }) || slices.ContainsFunc(room(op.Path)[len(op.Path):], func(d api.Digest) bool { return d != api.Digest{} }) {
				t.Fatalf("%s: Bytes has written into the spare room of operation %d", textOf(wanted), i)
			}
		}
		spoilOps(handed.Ops)
		if !bytes.Equal(one, wanted) || !bytes.Equal(two, wanted) {
			t.Fatalf("%s: Bytes keeps its order", textOf(wanted))
		}
		for i := range room(one) {
			room(one)[i] ^= 255
		}
		if !bytes.Equal(two, wanted) {
			t.Fatalf("%s: two answers share something", textOf(wanted))
		}
	}
}

// What Read is handed stays, and is not kept; what it answers is new, each list of it by itself.
func TestR4_Read(t *testing.T) {
	for _, o := range samples() {
		b := orderBytes(o)
		handed := append(make([]byte, 0, len(b)+9), b...)
		one, two := sure(Read(handed)), sure(Read(handed))
		for i := range room(handed) {
			room(handed)[i] ^= 255
		}
		if !sameOrder(one, o) || !sameOrder(two, o) {
			t.Fatalf("%s: Read keeps its bytes", textOf(b))
		}
		wanted := keptOps(one.Ops)
		for i, op := range one.Ops {
			for k := range room(op.Body) {
				room(op.Body)[k] ^= 255
			}
			wanted[i].Body = bytes.Clone(op.Body)
			if !slices.EqualFunc(one.Ops, wanted, sameOp) {
				t.Fatalf("%s: a body shares something", textOf(b))
			}
			for k := range room(op.Path) {
				room(op.Path)[k] = api.Digest{9}
			}
			wanted[i].Path = slices.Clone(op.Path)
			if !slices.EqualFunc(one.Ops, wanted, sameOp) {
				t.Fatalf("%s: a path shares something", textOf(b))
			}
		}
		spoilOps(one.Ops)
		if !sameOrder(two, o) {
			t.Fatalf("%s: two answers share something", textOf(b))
		}
		handed = append(make([]byte, 0, len(b)+9), b...)
		if one := sure(Read(handed)); len(one.Ops) > 0 {
			spoilOps(one.Ops)
		}
		if !bytes.Equal(handed, b) || slices.ContainsFunc(room(handed)[len(b):], func(x byte) bool { return x != 0 }) {
			t.Fatalf("%s: Read has written into its bytes", textOf(b))
		}
	}
}

// Nil things, and a bridge that New did not make: nothing panics.
func TestR1_Nil(t *testing.T) {
	if b, e := New(nil); b != nil || e != 230 {
		t.Errorf("New(nil): %v, %d", b, int(e))
	}
	if o, e := Read(nil); e != 231 || !sameOrder(o, api.Order{}) {
		t.Errorf("Read(nil): %+v, %d", o, int(e))
	}
	for what, b := range map[string]*Bridge{"nil": nil, "zero": {}} {
		for _, o := range samples() {
			if a := b.Do(orderBytes(o)); a.Code == 0 || len(a.Results) != 0 || len(a.Ops) != 0 || a.Back != 0 || a.Stage != 0 {
				t.Errorf("%s: %s: %s", what, textOf(orderBytes(o)), textOfAnswer(a))
			}
		}
		for _, bytes := range [][]byte{nil, {9}, {1, 2}} {
			if a := b.Do(bytes); a.Code == 0 {
				t.Errorf("%s: %x: %s", what, bytes, textOfAnswer(a))
			}
		}
		for _, token := range []int{-1, 0, 5, 64} {
			if b.Held(token) != (api.Wide{}) || b.Supply(token) != (api.Wide{}) {
				t.Errorf("%s: of token %d something is there", what, token)
			}
		}
	}
	if a := (*Bridge)(nil).Do(nil); a.Code != 1 {
		t.Errorf("nil: %s", textOfAnswer(a))
	}
}

// Two bridges have nothing in common: told by turns, each answers as if it were alone.
func TestR5_TwoBridges(t *testing.T) {
	orders := story(t)
	one, two := newBoth(t, usual()), newBoth(t, api.Config{Owner: oda, Admin: ann, Window: 7, Turn: 3, Bond: of(9)})
	for i, order := range orders {
		one.raw(t, "the first one", order)
		two.raw(t, "the second one", orders[i/2])
		if i%10 == 0 {
			one.wantTold(t, "the first one")
			two.wantTold(t, "the second one")
		}
	}
	one.wantTold(t, "the first one")
	two.wantTold(t, "the second one")
}

// Asking what is held, or for the supply, turns nothing.
func TestP23_7_OnlyAsked(t *testing.T) {
	x := newBoth(t, usual())
	for i, order := range story(t) {
		x.raw(t, "story", order)
		was := x.tell()
		x.wantSums(t, "story")
		if x.tell() != was {
			t.Fatalf("order %d: something has changed", i)
		}
	}
}

// with is an order with other workers.
func with(order []byte, workers int) []byte {
	o, ok := readWords(order)
	if !ok || o.Workers < 1 || o.Workers > 16 {
		return order
	}
	o.Workers = workers
	return orderBytes(o)
}

// Bridges that are told the same but for their workers, side by side, answer the same: P23.10, W11.
func TestP23_10_SideBySide(t *testing.T) {
	orders := story(t)
	s := newSaid(usual())
	var wanted []api.Answer
	for _, order := range orders {
		wanted = append(wanted, s.do(order))
	}
	faults, text := make([]string, 16), tellParts(s.contract, s.node, nil)
	var all sync.WaitGroup
	for i := range faults {
		all.Go(func() {
			b, _ := New(headerBytes(usual()))
			for k, order := range orders {
				if a := b.Do(with(order, 1+i)); !sameAnswer(a, wanted[k]) {
					faults[i] = fmt.Sprintf("%d workers, order %d, %s: %s, not %s", 1+i, k, textOf(order), textOfAnswer(a), textOfAnswer(wanted[k]))
					return
				}
			}
			if tellParts(b.chain.Contract(), b.node, nil) != text {
				faults[i] = fmt.Sprintf("%d workers: something else is there", 1+i)
			}
		})
	}
	all.Wait()
	for _, text := range faults {
		if text != "" {
			t.Error(text)
		}
	}
}

func TestR5_NoGoroutineIsLeft(t *testing.T) {
	ahead, b := runtime.NumGoroutine(), newBoth(t, usual()).bridge
	for i, order := range story(t) {
		b.Do(with(order, 1+i%16))
		for k := 0; runtime.NumGoroutine() > ahead; k++ {
			if k > 5000 {
				t.Fatalf("order %d, %s: %d goroutines, and %d ahead of it", i, textOf(order), runtime.NumGoroutine(), ahead)
			}
			time.Sleep(time.Millisecond)
		}
	}
}

func BenchmarkStory(b *testing.B) {
	orders := story(b)
	for b.Loop() {
		x, _ := New(headerBytes(usual()))
		for _, order := range orders {
			x.Do(order)
		}
	}
}
