package contract

import (
	"fmt"
	"math"
	"slices"
	"testing"

	"causeway/api"
	"causeway/exec"
	"causeway/outbox"
)

func TestErrors_Numbers(t *testing.T) {
	for _, x := range []struct {
		got    api.Errno
		wanted int
	}{
		{api.OK, 0}, {api.ErrArg, 1}, {api.ErrContractConfig, 180}, {api.ErrContractOp, 181}, {api.ErrContractTime, 182}, {api.ErrContractOwner, 183},
		{api.ErrContractSpan, 184}, {api.ErrContractHolds, 185}, {api.ErrContractDuel, 186}, {api.ErrContractLeaf, 187},
	} {
		if int(x.got) != x.wanted {
			t.Errorf("%d, not %d", int(x.got), x.wanted)
		}
	}
}

func TestLimits_AndKinds(t *testing.T) {
	if api.MaxCount != 1099511627776 || api.MaxTime != 4611686018427387904 || api.MaxBody != 4096 || api.MaxWitness != 4194304 || api.MaxReplay != 32 || api.MaxTokens != 64 {
		t.Error("the limits are others")
	}
	kinds := []int{api.OpList, api.OpStop, api.OpDeposit, api.OpSend, api.OpPost, api.OpConfirm, api.OpChallenge, api.OpDuel, api.OpSplit, api.OpPick, api.OpProve, api.OpExpire, api.OpClaim}
	for i, kind := range kinds {
		if kind != i+1 {
			t.Errorf("kind %d has the number %d", i+1, kind)
		}
	}
	if len(kinds) != 13 || api.PayLeaf != 1 || api.PayBond != 2 || api.PayReward != 3 {
		t.Error("the kinds are others")
	}
}

// The chapter's examples, row by row.
func TestExamples(t *testing.T) {
	config := api.Config{Owner: oda, Admin: zed, Window: 100, Turn: 10, Bond: of(7)}
	with := func(turn func(c *api.Config)) api.Config {
		c := config
		turn(&c)
		return c
	}
	wantNew(t, with(func(c *api.Config) { c.Window = 0 }), 180)
	wantNew(t, with(func(c *api.Config) { c.Turn = full + 1 }), 180)
	wantNew(t, with(func(c *api.Config) { c.Bond = api.Wide{3: 1} }), 180)
	b := newBoth(t, config)
	p, q := ann, bob
	b.refuse(t, "list by p", 5, list(p, 3), 183)
	b.want(t, "list by o", 5, list(oda, 3), 0, 0)
	b.refuse(t, "list again", 5, list(oda, 3), 142)
	for _, o := range []api.Op{list(oda, 4), {Kind: 14}, confirm(p)} {
		b.refuse(t, "time 4", 4, o, 182)
		b.refuse(t, "time 2^62 + 1", late+1, o, 182)
	}
	for _, o := range []api.Op{{Kind: 14}, {Kind: 1, By: oda, Gas: 1}, {Kind: 2, By: oda, Index: 2}, {Kind: 6, Number: 1}} {
		b.refuse(t, "no operation", 5, o, 181)
	}
	b.want(t, "deposit", 6, deposit(p, 3, q, of(9), 100), 0, 0)
	if b.contract.Held(3) != of(9) {
		t.Errorf("Held(3) is %v", b.contract.Held(3))
	}
	b.want(t, "send", 7, send(q, 99), 0, 1)
	b.want(t, "post", 8, post(p, api.Commit{Count: 2, State: api.Digest{5}}), 0, 1)
	wantLocked(t, b, 7)
	b.refuse(t, "post of 3", 8, post(q, api.Commit{Count: 3}), 162)
	b.refuse(t, "duel by p", 9, fight(p, 1), 172)
	b.want(t, "duel by q", 9, fight(q, 1), 0, 1)
	b.refuse(t, "duel by q again", 9, fight(q, 1), 186)
	wantLocked(t, b, 14)
	b.refuse(t, "expire at 19", 19, expire(cyd, 1, q), 174)
	b.want(t, "expire at 20", 20, expire(cyd, 1, q), 0, 1, rewardTo(q, 1), bondTo(q, 1))
	wantLocked(t, b, 0)
	if len(b.contract.Pending()) != 0 {
		t.Error("there is something pending")
	}
	b.refuse(t, "confirm", 20, confirm(p), 164)
	right := newSide(zed).follow(b.contract).commits[2]
	b.want(t, "post of what is right", 20, post(p, right), 0, 2)
	b.refuse(t, "confirm at 119", 119, confirm(cyd), 165)
	b.want(t, "confirm at 120", 120, confirm(cyd), 0, 2, bondTo(p, 2))
	b.refuse(t, "claim", 120, claim(q, leafBytes(api.Leaf{Token: 3, To: q, Amount: of(1)})), 187)
	b.refuse(t, "claim with a path", 120, claim(q, leafBytes(api.Leaf{Token: 3, To: q, Amount: of(1)}), api.Digest{1}), 187)
}

func wantLocked(t testing.TB, b both, n uint64) {
	t.Helper()
	if got := b.contract.Locked(); got != of(n) {
		t.Errorf("Locked is %v, not %d", got, n)
	}
}

// wantNew makes a contract, by the words too, and holds what came of it against what is to come.
func wantNew(t testing.TB, config api.Config, wanted int) {
	t.Helper()
	c, e := New(config)
	s, also := sayNew(config)
	if int(e) != wanted || e != also || (c == nil) != (wanted != 0) {
		t.Errorf("New(%+v): %v, error %d, not %d (by the words %d)", config, c, int(e), wanted, int(also))
		return
	}
	if c != nil {
		both{c, s}.wantTold(t, fmt.Sprintf("New(%+v)", config))
	}
}

func TestP18_1_New(t *testing.T) {
	seconds := map[int]bool{math.MinInt: false, -full: false, -1: false, 0: false, 1: true, 2: true, 100: true, full - 1: true, full: true, full + 1: false, late: false, math.MaxInt: false}
	bonds := map[api.Wide]bool{{}: true, of(1): true, {math.MaxUint64, math.MaxUint64, math.MaxUint64}: true, {3: 1}: false, {3: 1 << 63}: false, {math.MaxUint64, math.MaxUint64, math.MaxUint64, 1}: false, {math.MaxUint64, math.MaxUint64, math.MaxUint64, math.MaxUint64}: false}
	for window, w := range seconds {
		for turn, u := range seconds {
			for bond, v := range bonds {
				wanted := 180
				if w && u && v {
					wanted = 0
				}
				wantNew(t, api.Config{Owner: oda, Admin: zed, Window: window, Turn: turn, Bond: bond}, wanted)
			}
		}
	}
	for _, owner := range []api.Address{{}, oda, zed, {19: 1}} { // any, and the same for both too
		for _, admin := range []api.Address{{}, oda, zed, {0: 255}} {
			wantNew(t, api.Config{Owner: owner, Admin: admin, Window: 1, Turn: 1}, 0)
		}
	}
}

func TestP18_1_WhatANewOneHas(t *testing.T) {
	config := usual()
	c, e := New(config)
	if e != 0 {
		t.Fatalf("New: %d", int(e))
	}
	beginning, _ := exec.Commit(exec.Genesis(zed))
	if c.Config() != config || c.Now() != 0 || c.Confirmed() != beginning || c.Top() != beginning || beginning.Count != 0 || beginning.Leaves != 0 {
		t.Errorf("%+v, %d, %+v, %+v", c.Config(), c.Now(), c.Confirmed(), c.Top())
	}
	if c.Locked() != (api.Wide{}) || len(c.Pending()) != 0 || len(c.Duels()) != 0 || c.Inbox().Len() != 0 {
		t.Error("a new one has something")
	}
	for n := -2; n < 70; n++ {
		if there, stopped := c.Listed(n); there || stopped || c.Held(n) != (api.Wide{}) || c.Paid(n) {
			t.Errorf("a new one has something of %d", n)
		}
	}
	other, _ := New(api.Config{Owner: oda, Admin: ann, Window: 1, Turn: 1})
	if other.Confirmed() == beginning {
		t.Error("the beginning does not hang on the admin")
	}
}

// sampleOp is an operation of a kind with all fields that it uses at ordinary values.
func sampleOp(kind int) api.Op {
	o := api.Op{Kind: kind, By: ann}
	for _, name := range usedFields(kind) {
		switch name {
		case "Token":
			o.Token = 5
		case "To":
			o.To = bob
		case "Amount":
			o.Amount = of(6)
		case "Gas":
			o.Gas = 100
		case "Number":
			o.Number = 3
		case "Index":
			o.Index = 1
		case "Body":
			o.Body = []byte{1, 2, 3}
		case "Path":
			o.Path = []api.Digest{{1}, {2}}
		}
	}
	return o
}

func wantCheck(t testing.TB, o api.Op, wanted int) {
	t.Helper()
	if got, also := Check(o), sayCheck(o); int(got) != wanted || got != also {
		t.Errorf("Check, %s: %d, not %d (by the words %d)", textOf(0, o), int(got), wanted, int(also))
	}
}

func TestP18_1_CheckKinds(t *testing.T) {
	for _, kind := range []int{math.MinInt, -1 << 32, -13, -1, 0, 14, 15, 255, 256 + 1, 1 << 32, 1<<32 + 1, math.MaxInt} {
		wantCheck(t, api.Op{Kind: kind}, 181)
		wantCheck(t, api.Op{Kind: kind, By: ann}, 181)
	}
	for kind := 1; kind <= 13; kind++ {
		o := sampleOp(kind)
		wantCheck(t, o, 0)
		for _, by := range []api.Address{{}, oda, {19: 1}} {
			o.By = by
			wantCheck(t, o, 0)
		}
	}
}

// numberField tells an operation's field of that name, if it is a number.
func numberField(o *api.Op, name string) *int {
	return map[string]*int{"Token": &o.Token, "Gas": &o.Gas, "Number": &o.Number, "Index": &o.Index}[name]
}

// Each kind, with each of its fields at the least, the greatest, and beyond.
func TestP18_1_CheckUsedFields(t *testing.T) {
	numbers := map[string][2]int{"Token": {0, 63}, "Gas": {0, full}, "Number": {1, full}, "Index": {0, 1}}
	for kind := 1; kind <= 13; kind++ {
		for _, name := range usedFields(kind) {
			if edge, is := numbers[name]; is {
				for n, wanted := range map[int]int{math.MinInt: 181, -1: 181, edge[0] - 1: 181, edge[0]: 0, edge[1]: 0, edge[1] + 1: 181, math.MaxInt: 181, edge[1] + 1<<32: 181} {
					o := sampleOp(kind)
					*numberField(&o, name) = n
					wantCheck(t, o, wanted)
				}
				continue
			}
			o := sampleOp(kind)
			switch name {
			case "To":
				for _, to := range []api.Address{{}, ann, {19: 255}} {
					o.To = to
					wantCheck(t, o, 0)
				}
			case "Amount":
				for _, amount := range []api.Wide{{}, of(1), {3: 1 << 63}, {math.MaxUint64, math.MaxUint64, math.MaxUint64, math.MaxUint64}} {
					o.Amount = amount
					wantCheck(t, o, 0)
				}
			case "Body":
				most := 1 << 22
				if kind == 4 {
					most = 4096
				}
				o.Body = nil
				wantCheck(t, o, 0)
				for n, wanted := range map[int]int{0: 0, 1: 0, most - 1: 0, most: 0, most + 1: 181} {
					o.Body = make([]byte, n)
					wantCheck(t, o, wanted)
				}
			case "Path":
				for n, wanted := range map[int]int{0: 0, 1: 0, 63: 0, 64: 0, 65: 181, 1000: 181} {
					o.Path = make([]api.Digest, n)
					wantCheck(t, o, wanted)
				}
			}
		}
	}
}

// Each kind, with each field that it does not use set, ever so little.
func TestP18_1_CheckOtherFields(t *testing.T) {
	all := []string{"Token", "To", "Amount", "Gas", "Number", "Index", "Body", "Path"}
	for kind := 1; kind <= 13; kind++ {
		for _, name := range all {
			if slices.Contains(usedFields(kind), name) {
				continue
			}
			var turned []api.Op
			turn := func(do func(o *api.Op)) {
				o := sampleOp(kind)
				do(&o)
				turned = append(turned, o)
			}
			switch name {
			case "To":
				turn(func(o *api.Op) { o.To[0] = 1 })
				turn(func(o *api.Op) { o.To[19] = 1 })
			case "Amount":
				turn(func(o *api.Op) { o.Amount[0] = 1 })
				turn(func(o *api.Op) { o.Amount[3] = 1 })
			case "Body":
				turn(func(o *api.Op) { o.Body = []byte{0} })
			case "Path":
				turn(func(o *api.Op) { o.Path = []api.Digest{{}} })
			default:
				for _, n := range []int{math.MinInt, -1, 1, math.MaxInt} {
					turn(func(o *api.Op) { *numberField(o, name) = n })
				}
			}
			for _, o := range turned {
				wantCheck(t, o, 181)
			}
		}
		o := sampleOp(kind) // nil and empty lists are one
		if len(o.Body) == 0 {
			o.Body = make([]byte, 0, 9)
		}
		if len(o.Path) == 0 {
			o.Path = make([]api.Digest, 0, 9)
		}
		wantCheck(t, o, 0)
	}
}

func TestP18_2_Times(t *testing.T) {
	w := begun(t)
	for _, x := range []struct{ now, wanted int }{
		{math.MinInt, 182}, {-1, 182}, {0, 182}, {49, 182}, {50, 0}, {51, 0}, {late - 1, 0}, {late, 0}, {late + 1, 182}, {math.MaxInt, 182},
	} {
		b := w.copied()
		if x.wanted != 0 {
			b.refuse(t, "a time", x.now, send(ann, 1), x.wanted)
			b.refuse(t, "a wrong time and a wrong operation", x.now, api.Op{Kind: 14}, 182)
			b.refuse(t, "a wrong time and a wrong step", x.now, list(ann, 0), 182)
			continue
		}
		b.want(t, "a time", x.now, send(ann, 1), 0, 80)
		if b.contract.Now() != x.now {
			t.Errorf("Now is %d, not %d", b.contract.Now(), x.now)
		}
		b.refuse(t, "one below", x.now-1, send(ann, 1), 182)
		b.want(t, "the same again", x.now, send(ann, 1), 0, 81)
	}
	b := newBoth(t, usual())
	b.refuse(t, "below nought", -1, send(ann), 182)
	b.want(t, "nought", 0, send(ann), 0, 0)
	b.want(t, "the last moment", late, send(ann), 0, 1)
	b.want(t, "once more", late, send(ann), 0, 2)
	b.refuse(t, "behind it", late+1, send(ann), 182)
}

// A refused operation does not turn the time, however late it comes.
func TestP18_2_RefusedTimes(t *testing.T) {
	w := begun(t)
	for i, o := range []api.Op{{}, {Kind: 14}, list(ann, 3), list(oda, 0), confirm(ann), fight(ann, 1), expire(ann, 1, bob), claim(ann, nil)} {
		if got := w.do(t, fmt.Sprint("refused ", i), late-i, o); got.Code == 0 || w.contract.Now() != 50 {
			t.Errorf("%s: %+v, Now is %d", textOf(late-i, o), got, w.contract.Now())
		}
	}
	w.want(t, "and then", 50, send(ann), 0, 80)
}

// A wrong operation is told ahead of what its row would say.
func TestP18_2_WrongOperationAndAStep(t *testing.T) {
	w := begun(t).posted(t, 60, ann, begun(t).side.lies(40)[0])
	for _, o := range []api.Op{list(ann, 0), stop(ann, 9, 1), deposit(ann, 9, bob, of(0), 1), send(ann), post(ann, api.Commit{}), confirm(ann), challenge(ann, 9, nil), fight(ann, 9), split(ann, 9, ann, api.Commit{}), pick(ann, 9, 1), prove(ann, 9, nil), expire(ann, 9, ann), claim(ann, nil)} {
		for _, name := range []string{"Token", "Gas", "Number", "Index"} {
			wrong := o
			*numberField(&wrong, name) = -1
			w.refuse(t, "both wrong", 60, wrong, 181)
		}
		wrong := o
		wrong.Path = make([]api.Digest, 65)
		w.refuse(t, "both wrong", 60, wrong, 181)
		wrong = o
		wrong.Body = make([]byte, 1<<22+1)
		w.refuse(t, "both wrong", 60, wrong, 181)
		wrong = o
		wrong.Kind = -o.Kind
		w.refuse(t, "both wrong", 60, wrong, 181)
	}
}

func TestOpList(t *testing.T) {
	b := newBoth(t, usual())
	for _, token := range []int{0, 63, 17} {
		for _, by := range []api.Address{ann, zed, {}} {
			b.refuse(t, "another one", 1, list(by, token), 183)
		}
		b.want(t, "the owner", 1, list(oda, token), 0, 0)
		b.refuse(t, "again", 1, list(oda, token), 142)
		b.refuse(t, "another one, again", 1, list(ann, token), 183)
	}
}

func TestOpStop(t *testing.T) {
	b := newBoth(t, usual())
	b.refuse(t, "not listed", 1, stop(oda, 5, 1), 141)
	b.refuse(t, "not listed", 1, stop(oda, 5, 0), 141)
	b.refuse(t, "not listed, another one", 1, stop(ann, 5, 1), 183)
	b.ahead(t, 1, list(oda, 5), list(oda, 6))
	b.refuse(t, "it runs", 1, stop(oda, 5, 0), 143)
	b.refuse(t, "another one", 1, stop(zed, 5, 1), 183)
	b.want(t, "stop", 1, stop(oda, 5, 1), 0, 0)
	b.refuse(t, "again", 1, stop(oda, 5, 1), 143)
	b.refuse(t, "another one, again", 1, stop(ann, 5, 1), 183)
	b.refuse(t, "a deposit", 1, deposit(ann, 5, bob, of(3), 1), 143)
	b.want(t, "of another token", 1, deposit(ann, 6, bob, of(3), 1), 0, 0)
	b.want(t, "go on", 1, stop(oda, 5, 0), 0, 0)
	b.want(t, "a deposit", 1, deposit(ann, 5, bob, of(3), 1), 0, 1)
	b.refuse(t, "it is listed", 1, list(oda, 5), 142)
}

func TestOpDeposit(t *testing.T) {
	most := api.Wide{math.MaxUint64, math.MaxUint64, math.MaxUint64, math.MaxUint64}
	b := newBoth(t, usual())
	b.refuse(t, "not listed", 1, deposit(ann, 5, bob, of(3), 1), 141)
	b.refuse(t, "not listed, of nought", 1, deposit(ann, 5, bob, of(0), 1), 141)
	b.ahead(t, 1, list(oda, 5), list(oda, 6), list(oda, 7), stop(oda, 7, 1))
	b.refuse(t, "of nought", 1, deposit(ann, 5, bob, of(0), 1), 144)
	b.refuse(t, "stopped, of nought", 1, deposit(ann, 7, bob, of(0), 1), 143)
	b.want(t, "an amount", 2, deposit(ann, 5, bob, of(3), 0), 0, 0)
	b.refuse(t, "too much", 2, deposit(ann, 5, bob, most, 100), 145)
	b.want(t, "all that there is", 3, deposit(ann, 6, ann, most, full), 0, 1)
	b.refuse(t, "one more", 3, deposit(ann, 6, ann, of(1), full), 145)
	b.want(t, "noughts, to noughts", 3, deposit(api.Address{}, 5, api.Address{}, of(1), 0), 0, 2)
	wanted := []api.Entry{
		{Kind: 1, Sender: ann, Time: 2, Token: 5, To: bob, Amount: of(3)},
		{Kind: 1, Sender: ann, Time: 3, Token: 6, To: ann, Amount: most, Gas: full},
		{Kind: 1, Time: 3, Token: 5, Amount: of(1)},
	}
	if got, _ := b.contract.Inbox().Entries(0, 3); !slices.EqualFunc(got, wanted, sameEntry) {
		t.Errorf("%+v, not %+v", got, wanted)
	}
	if b.contract.Held(5) != of(4) || b.contract.Held(6) != most || b.contract.Held(7) != of(0) {
		t.Errorf("held: %v, %v, %v", b.contract.Held(5), b.contract.Held(6), b.contract.Held(7))
	}
}

func TestOpSend(t *testing.T) {
	b := newBoth(t, usual())
	b.want(t, "nothing", 0, send(ann), 0, 0)
	b.want(t, "no letter", 4, send(bob, 99), 0, 1)
	b.want(t, "as much as may be", 4, send(api.Address{}, make([]byte, 4096)...), 0, 2)
	b.refuse(t, "one more", 4, send(ann, make([]byte, 4097)...), 181)
	b.want(t, "a letter", late, send(cyd, letterBytes(api.Letter{Kind: api.LetterToken, Token: 3})...), 0, 3)
	wanted := []api.Entry{
		{Kind: 2, Sender: ann}, {Kind: 2, Sender: bob, Time: 4, Body: []byte{99}}, {Kind: 2, Time: 4, Body: make([]byte, 4096)}, {Kind: 2, Sender: cyd, Time: late, Body: []byte{7, 1, 3}},
	}
	if got, _ := b.contract.Inbox().Entries(0, 4); !slices.EqualFunc(got, wanted, sameEntry) {
		t.Errorf("%+v, not %+v", got, wanted)
	}
}

func TestOpPost(t *testing.T) {
	w := begun(t)
	right := w.side.commits
	good := commitBytes(right[30])
	for i, body := range [][]byte{nil, {65}, {1, 2, 3}, good[:len(good)-1], append(slices.Clone(good), 0), append([]byte{66}, good[1:]...), leafBytes(w.side.leaves[0]), make([]byte, 1<<22)} {
		w.refuse(t, fmt.Sprint("no commit ", i), 60, api.Op{Kind: 5, By: ann, Body: body}, 160)
	}
	w.refuse(t, "no entry more", 60, post(ann, right[0]), 161)
	w.refuse(t, "more than there are", 60, post(ann, api.Commit{Count: 81}), 162)
	w.refuse(t, "far more, and more than a span", 60, post(ann, api.Commit{Count: 1025}), 161)
	w.refuse(t, "its window would end too late", late-99, post(ann, right[30]), 168)
	w.refuse(t, "that, and a wrong count", late-99, post(ann, right[0]), 168)
	w.refuse(t, "no commit, too late", late-99, api.Op{Kind: 5, By: ann, Body: []byte{1}}, 160)
	w.twin().want(t, "just in time", late-100, post(ann, right[30]), 0, 1)
	w.twin().want(t, "all there are", 60, post(ann, right[80]), 0, 1)
	w.want(t, "the first one", 60, post(ann, right[30]), 0, 1)
	wantLocked(t, w.both, 7)
	w.refuse(t, "the same again", 60, post(bob, right[30]), 161)
	w.refuse(t, "fewer leaves", 60, post(bob, api.Commit{Count: 33, Leaves: right[30].Leaves - 1}), 161)
	w.want(t, "a lie", 61, post(bob, api.Commit{Count: 33, Leaves: right[30].Leaves}), 0, 2)
	w.want(t, "by the same, behind it", 61, post(bob, api.Commit{Count: 34, Leaves: full}), 0, 3)
	wantLocked(t, w.both, 21)
	wanted := []api.Pending{
		{Number: 1, Commit: right[30], Poster: ann, Posted: 60, Deadline: 160},
		{Number: 2, Commit: api.Commit{Count: 33, Leaves: right[30].Leaves}, Poster: bob, Posted: 61, Deadline: 161},
		{Number: 3, Commit: api.Commit{Count: 34, Leaves: full}, Poster: bob, Posted: 61, Deadline: 161},
	}
	if got := w.contract.Pending(); !slices.Equal(got, wanted) || w.contract.Top() != wanted[2].Commit || w.contract.Confirmed() != right[0] {
		t.Errorf("Pending is %+v, not %+v", got, wanted)
	}
}

// A ladder that is full, and how many entries one assertion may go over.
func TestOpPost_Edges(t *testing.T) {
	w := begun(t)
	for n := 1; n <= 32; n++ {
		w.want(t, "one more", 60, post(ann, api.Commit{Count: n}), 0, n)
	}
	wantLocked(t, w.both, 224)
	w.refuse(t, "full", 60, post(ann, api.Commit{Count: 33}), 163)
	w.refuse(t, "full, and more than there are", 60, post(ann, api.Commit{Count: 81}), 162)
	w.want(t, "room", 160, confirm(bob), 0, 1, bondTo(ann, 1))
	w.want(t, "one more", 160, post(ann, api.Commit{Count: 33}), 0, 33)
	many := greatest()
	b := many.copied()
	b.refuse(t, "1025 entries", 60, post(ann, many.side.commits[1025]), 161)
	b.want(t, "1024 entries", 60, post(ann, many.side.commits[1024]), 0, 1)
}

// Bonds of nought, and the greatest that may be.
func TestOpPost_Bonds(t *testing.T) {
	for _, bond := range []api.Wide{{}, of(1), {math.MaxUint64, math.MaxUint64, math.MaxUint64}} {
		config := usual()
		config.Bond = bond
		b := newBoth(t, config)
		for i := range 40 {
			b.ahead(t, 0, send(ann, byte(i)))
		}
		for n := 2; n <= 33; n++ {
			b.ahead(t, 0, post(ann, api.Commit{Count: n}))
		}
		for n := range 100 {
			b.ahead(t, 0, fight(api.Address{1, byte(n)}, 1))
		}
		if got, wanted := b.contract.Locked(), b.said.locked(); got != wanted || b.said.bonds() != 132 {
			t.Errorf("Locked is %v, not %v", got, wanted)
		}
		r := b.do(t, "all of them fall", 11, expire(bob, 1, api.Address{1, 50}))
		if len(r.Pays) != 132 || r.Pays[0] != (api.Pay{Why: 3, To: api.Address{1, 50}, Amount: bond, Index: 1}) || b.contract.Locked() != (api.Wide{}) {
			t.Errorf("%+v", r)
		}
	}
}

func TestOpConfirm(t *testing.T) {
	w := begun(t)
	w.refuse(t, "nothing is there", 60, confirm(ann), 164)
	w.posted(t, 60, ann, w.side.commits[9]).posted(t, 70, bob, w.side.lies(12)[2])
	w.refuse(t, "early", 159, confirm(ann), 165)
	w.refuse(t, "early by far", 70, confirm(ann), 165)
	w.twin().want(t, "by its poster", 160, confirm(ann), 0, 1, bondTo(ann, 1))
	w.twin().want(t, "the last moment there is", late, confirm(api.Address{}), 0, 1, bondTo(ann, 1))
	w.want(t, "at its deadline, by another one", 160, confirm(cyd), 0, 1, bondTo(ann, 1))
	if w.contract.Confirmed() != w.side.commits[9] || len(w.contract.Pending()) != 1 {
		t.Errorf("Confirmed is %+v", w.contract.Confirmed())
	}
	wantLocked(t, w.both, 7)
	w.refuse(t, "the second one is early", 169, confirm(ann), 165)
	w.want(t, "a lie that has stood", 170, confirm(ann), 0, 2, bondTo(bob, 2))
	if w.contract.Confirmed() != w.side.lies(12)[2] {
		t.Errorf("Confirmed is %+v", w.contract.Confirmed())
	}
	w.refuse(t, "nothing is left", 170, confirm(ann), 164)
}

// While a duel holds it.
func TestOpConfirm_Held(t *testing.T) {
	w := begun(t).posted(t, 60, ann, begun(t).side.commits[40])
	w.ahead(t, 155, fight(bob, 1), fight(cyd, 1))
	w.refuse(t, "held and early", 156, confirm(ann), 166)
	w.refuse(t, "held", 160, confirm(ann), 166)
	w.ahead(t, 165, split(ann, 1, bob, w.side.commits[20]), split(ann, 1, cyd, w.side.commits[20]))
	w.refuse(t, "held by two", 176, confirm(ann), 166)
	w.want(t, "one has not picked", 176, expire(dan, 1, bob), 0, 1, rewardTo(ann, 1))
	w.refuse(t, "held by the other one", 176, confirm(ann), 166)
	w.want(t, "the other one has not, either", 176, expire(dan, 1, cyd), 0, 1, rewardTo(ann, 1))
	w.want(t, "free", 176, confirm(dan), 0, 1, bondTo(ann, 1))
	wantLocked(t, w.both, 0)
}

func TestOpClaim(t *testing.T) {
	w := begun(t)
	leaves, size := w.side.leaves, w.side.commits[40].Leaves
	if size < 3 || w.side.commits[80].Leaves <= size {
		t.Fatalf("%d leaves behind 40 entries", size)
	}
	first := claiming(dan, leaves, 0, size)
	w.refuse(t, "nothing is confirmed", 60, first, 187)
	w.posted(t, 60, ann, w.side.commits[40])
	w.refuse(t, "it is pending", 60, first, 187)
	w.ahead(t, 160, confirm(ann), post(ann, w.side.commits[80]))
	for i, body := range [][]byte{nil, {76}, first.Body[:len(first.Body)-1], append(slices.Clone(first.Body), 0), commitBytes(w.side.commits[1])} {
		w.refuse(t, fmt.Sprint("no leaf ", i), 160, claim(dan, body, first.Path...), 187)
	}
	w.refuse(t, "no path", 160, claim(dan, first.Body), 187)
	w.refuse(t, "a longer path", 160, claim(dan, first.Body, append(slices.Clone(first.Path), api.Digest{})...), 187)
	w.refuse(t, "another one's path", 160, claim(dan, first.Body, claiming(dan, leaves, 1, size).Path...), 187)
	w.refuse(t, "under what is pending", 160, claiming(dan, leaves, 0, w.side.commits[80].Leaves), 187)
	w.refuse(t, "one of what is pending", 160, claiming(dan, leaves, size, w.side.commits[80].Leaves), 187)
	for i, turn := range []func(l *api.Leaf){
		func(l *api.Leaf) { l.Index++ }, func(l *api.Leaf) { l.Entry++ }, func(l *api.Leaf) { l.Token ^= 1 }, func(l *api.Leaf) { l.To[5] ^= 1 }, func(l *api.Leaf) { l.Amount[0]++ },
	} {
		other := leaves[0]
		turn(&other)
		w.refuse(t, fmt.Sprint("turned ", i), 160, claim(dan, leafBytes(other), first.Path...), 187)
	}
	for i := range size {
		l := leaves[i]
		o := claiming([]api.Address{dan, l.To, {}}[i%3], leaves, i, size)
		was := w.contract.Held(l.Token)
		w.want(t, "a leaf", 161, o, 0, 0, api.Pay{Why: 1, Token: l.Token, To: l.To, Amount: l.Amount, Index: i})
		if w.contract.Held(l.Token)[0] != was[0]-l.Amount[0] || !w.contract.Paid(i) {
			t.Errorf("leaf %d: held %v of %v", i, w.contract.Held(l.Token), was)
		}
		w.refuse(t, "once more", 161, o, 147)
		o.By = cyd
		w.refuse(t, "once more, by another one", 170, o, 147)
	}
	w.ahead(t, 260, confirm(ann))
	w.refuse(t, "paid, under another root", 260, claiming(dan, leaves, 0, w.side.commits[80].Leaves), 147)
	w.refuse(t, "under a root that is no more the confirmed one", 260, first, 187)
}

// lied is a world in which a lie of so many leaves is confirmed.
func lied(t testing.TB, leaves ...api.Leaf) world {
	t.Helper()
	for i := range leaves {
		leaves[i].Index = i
	}
	root, e := bookOf(leaves).Root(len(leaves))
	if e != 0 {
		t.Fatalf("Root: %d", int(e))
	}
	w := begun(t).posted(t, 60, ann, api.Commit{Count: 40, Outbox: root, Leaves: len(leaves)})
	w.ahead(t, 160, confirm(ann))
	return w
}

// Under a lie everything can be claimed that is held, and each index once all the same.
func TestOpClaim_Lies(t *testing.T) {
	held := begun(t).contract.Held(0)
	more := held
	more[0]++
	leaves := []api.Leaf{{Token: 0, To: ann, Amount: more}, {Token: 0, To: ann, Amount: held}, {Token: 0, To: ann, Amount: of(1)}, {Token: 9, To: ann, Amount: of(1)}, {Token: 1, Amount: of(1)}}
	w := lied(t, leaves...)
	w.refuse(t, "more than is held", 160, claiming(dan, leaves, 0, 5), 146)
	w.refuse(t, "a token that is not listed", 160, claiming(dan, leaves, 3, 5), 141)
	w.want(t, "all that is held", 160, claiming(dan, leaves, 1, 5), 0, 0, api.Pay{Why: 1, Token: 0, To: ann, Amount: held, Index: 1})
	w.refuse(t, "nothing is left, and it is paid", 160, claiming(dan, leaves, 1, 5), 147)
	w.refuse(t, "nothing is left", 160, claiming(dan, leaves, 2, 5), 146)
	w.want(t, "of another token", 160, claiming(dan, leaves, 4, 5), 0, 0, api.Pay{Why: 1, Token: 1, Amount: of(1), Index: 4})
	w.ahead(t, 161, deposit(bob, 0, bob, of(1), 100), list(oda, 9), stop(oda, 0, 1))
	w.want(t, "something is there again; no deposits, but pays", 161, claiming(dan, leaves, 2, 5), 0, 0, api.Pay{Why: 1, Token: 0, To: ann, Amount: of(1), Index: 2})
	w.refuse(t, "listed, but nothing is held", 161, claiming(dan, leaves, 3, 5), 146)
	other := []api.Leaf{{Token: 1, Amount: of(1)}, {Index: 1, Token: 1, Amount: of(1)}, {Index: 2, Token: 1, Amount: of(1)}, {Index: 3, Token: 1, Amount: of(1)}, {Index: 4, Token: 1, Amount: of(1)}, {Index: 5, Token: 1, Amount: of(1)}}
	root, _ := bookOf(other).Root(6)
	w.posted(t, 161, ann, api.Commit{Count: 41, Outbox: root, Leaves: 6})
	w.ahead(t, 261, confirm(ann))
	for i, wanted := range []int{0, 147, 147, 0, 147, 0} {
		o := claiming(dan, other, i, 6)
		if got := w.do(t, "under another lie", 261, o); int(got.Code) != wanted {
			t.Errorf("leaf %d: %+v, not %d", i, got, wanted)
		}
	}
}

// Leaves of great indices, and a path of 64 digests, which no leaf has.
func TestOpClaim_Edges(t *testing.T) {
	one := api.Leaf{Token: 2, To: dan, Amount: of(1)}
	root, _ := bookOf([]api.Leaf{one}).Root(1)
	w := lied(t, one)
	w.refuse(t, "64 digests", 160, claim(dan, leafBytes(one), make([]api.Digest, 64)...), 187)
	w.refuse(t, "65 digests", 160, claim(dan, leafBytes(one), make([]api.Digest, 65)...), 181)
	far := one
	far.Index = full - 1
	w.refuse(t, "far away", 160, claim(dan, leafBytes(far)), 187)
	w.want(t, "no path: it is the only one", 160, claim(dan, leafBytes(one)), 0, 0, api.Pay{Why: 1, Token: 2, To: dan, Amount: of(1)})
	none := begun(t).posted(t, 60, ann, api.Commit{Count: 40, Outbox: root})
	none.ahead(t, 160, confirm(ann))
	none.refuse(t, "a root, but no leaves", 160, claim(dan, leafBytes(one)), 187)
	deep := begun(t).posted(t, 60, ann, api.Commit{Count: 40, Outbox: deepRoot(far), Leaves: full})
	deep.ahead(t, 160, confirm(ann))
	deep.want(t, "the last leaf there can be", 160, claim(dan, leafBytes(far), make([]api.Digest, 40)...), 0, 0, api.Pay{Why: 1, Token: 2, To: dan, Amount: of(1), Index: full - 1})
	deep.refuse(t, "again", 160, claim(dan, leafBytes(far), make([]api.Digest, 40)...), 147)
}

// deepRoot is the root over 2^40 leaves of which this is the last one, with noughts beside it all the way.
func deepRoot(l api.Leaf) api.Digest {
	d := hashed(append([]byte{0}, leafBytes(l)...))
	for range 40 {
		d = hashed(append(append([]byte{1}, make([]byte, 32)...), d[:]...))
	}
	if e := outbox.Check(d, full, l, make([]api.Digest, 40)); e != 0 {
		panic(e)
	}
	return d
}
