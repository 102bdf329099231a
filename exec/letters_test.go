package exec

import (
	"fmt"
	"maps"
	"slices"
	"strings"
	"testing"

	"causeway/api"
	"causeway/ledger"
	"causeway/machine"
	"causeway/outbox"
)

// scene is a letter over a store.
type scene struct {
	has     map[string]string
	refuses map[string]api.Errno
	by      api.Address
	letter  api.Letter
}

// turn lets one thing of a scene be otherwise, so that the letter, or the whole entry, is refused.
type turn struct {
	key, value string
	refuse     api.Errno // by the source
	do         func(*scene)
	code       api.Errno
	whole      bool
}

func (w turn) on(x *scene) {
	if w.do != nil {
		w.do(x)
		return
	}
	x.has[w.key], x.refuses[w.key] = w.value, w.refuse
}

func (w turn) answer() answer {
	if w.whole {
		return refused(w.code)
	}
	return coded(w.code)
}

// Of a key: it is refused, is not of its form, holds another value; and of the letter: something is asked otherwise.
func missing(key string) turn                      { return turn{key, "", 74, nil, 74, true} }
func formless(key string) turn                     { return turn{key, "?", 0, nil, 75, true} }
func holds(key, value string, code api.Errno) turn { return turn{key, value, 0, nil, code, code == 75} }
func asks(code api.Errno, do func(*scene)) turn    { return turn{"", "", 0, do, code, false} }
func by(who api.Address, code api.Errno) turn      { return asks(code, func(x *scene) { x.by = who }) }
func amounts(amount api.Wide, code api.Errno) turn {
	return asks(code, func(x *scene) { x.letter.Amount = amount })
}
func running(token int) []turn {
	return asked(tokenKey(token), holds(tokenKey(token), "", 81), holds(tokenKey(token), pausedWith(100), 83))
}
func asked(key string, more ...turn) []turn {
	return append([]turn{missing(key), formless(key)}, more...)
}
func steps(lists ...[]turn) []turn { return slices.Concat(lists...) }

// kind is a letter that is done in the world, and all that refuses it, in the order of its row.
type kind struct {
	by     api.Address
	letter api.Letter
	turns  []turn
}

// kinds are all kinds of letters but those of several.
func kinds(t testing.TB) map[string]kind {
	bAnn, bBob, bCyd, k5, l := balanceKey(3, ann()), balanceKey(3, bob()), balanceKey(3, cyd()), ticketOf(5), allowanceKey(3, bob(), ann())
	box := asked("o", holds("o", inEight(full)+ones(1), 114))
	admin := append(asked("a", holds("a", "", 75)), by(ann(), 124))
	home2 := balanceKey(3, homeOf(2))
	return map[string]kind{
		"move":          {ann(), move(3, bob(), 3), steps(running(3), asked(bAnn, holds(bAnn, value32(2), 85)), asked(bBob, holds(bBob, greatest(3), 75)))},
		"burn":          {ann(), burn(3, bob(), 3), steps(running(3), asked(bAnn, holds(bAnn, "", 85)), []turn{holds(tokenKey(3), runningWith(2), 75)}, box)},
		"burn too much": {ann(), burn(3, bob(), 40), steps(running(3), asked(bAnn), []turn{amounts(of(41), 85)}, []turn{holds(tokenKey(3), runningWith(39), 75)}, box)},
		"allow":         {ann(), allow(3, bob(), 3), steps(asked(tokenKey(3), holds(tokenKey(3), "", 81)), []turn{missing(allowanceKey(3, ann(), bob()))})},
		"pull":          {ann(), pull(3, bob(), cyd(), 7), steps(running(3), asked(l, holds(l, value32(6), 86)), asked(bBob, holds(bBob, value32(6), 85)), asked(bCyd, holds(bCyd, greatest(7), 75)))},
		"retry":         {cyd(), numbered(5, 5), steps(asked(k5, holds(k5, "", 90)), running(3), []turn{holds(tokenKey(3), "\x01"+greatest(10), 87)}, asked(bBob, holds(bBob, greatest(10), 75)))},
		"cancel":        {ann(), numbered(6, 5), steps(asked(k5, holds(k5, "", 90)), []turn{by(bob(), 91)}, box)},
		"token":         {zed(), tokened(7, 5), steps(admin, asked(tokenKey(5), holds(tokenKey(5), runningWith(0), 82), holds(tokenKey(5), pausedWith(9), 82)))},
		"pause":         {zed(), tokened(8, 3), steps(admin, running(3))},
		"resume":        {zed(), tokened(9, 4), steps(admin, asked(tokenKey(4), holds(tokenKey(4), "", 81), holds(tokenKey(4), runningWith(9), 84)))},
		"code":          {ann(), coding(echo(t)), steps([]turn{asks(100, func(x *scene) { x.letter.Code = []byte{99} })}, asked("np", holds("np", inEight(full), 126)), []turn{missing(programOf(5))})},
		"call": {ann(), calling(2, 2, 10000), steps(asked(programOf(2), holds(programOf(2), "", 125)), running(3), asked(bAnn, holds(bAnn, value32(1), 85)), asked(home2, holds(home2, greatest(2), 75)),
			[]turn{asks(102, func(x *scene) { x.letter.Gas = 1 })}, asked(slotOf(2, of(1))), asked(bBob), []turn{holds(slotOf(2, of(1)), greatest(5), 104), missing(slotOf(2, of(2)))}, []turn{holds(home2, value32(2), 85)})},
	}
}

// Each step refuses its letter, and of two steps the first one: where it is the state that refuses, or a value, the whole entry.
func TestP12_4_RefusedAtEachStep(t *testing.T) {
	for name, r := range kinds(t) {
		b := over(t, world(t), nil)
		wantErr(t, name, b.wantApply(t, name, 7, call(t, r.by, r.letter)).receipt.Code, api.OK)
		for i, first := range r.turns {
			for j, then := range r.turns[i:] {
				if j > 0 && (first.key == then.key) {
					continue // one thing can not be two
				}
				x := scene{world(t), map[string]api.Errno{}, r.by, r.letter}
				then.on(&x)
				first.on(&x)
				b := over(t, x.has, x.refuses)
				what := fmt.Sprintf("%s: %d at %q ahead of %d at %q", name, int(first.code), first.key, int(then.code), then.key)
				wantAnswer(t, what, b.wantApply(t, what, 7, call(t, x.by, x.letter)), first.answer())
				b.wantCounted(t, what, first.whole)
			}
		}
	}
}

// wantCounted: the count was laid and nothing else; or nothing at all, if the whole entry is refused.
func (b both) wantCounted(t testing.TB, what string, whole bool) {
	t.Helper()
	wanted := map[string][2]string{"ne": {inEight(7), inEight(8)}}
	if whole {
		wanted = nil
	}
	if got := changesOf(b.state); !maps.Equal(got, wanted) {
		t.Errorf("%s: the changes are %q", what, got)
	}
}

// A refused letter as each part of several: the code is the same, Part is its number, and of the parts ahead nothing is left.
func TestP12_4_RefusedAsAPart(t *testing.T) {
	good := []api.Letter{move(3, cyd(), 1), burn(3, cyd(), 1), coding(echo(t)), calling(4, 1, 410, of(7), of(7)), allow(3, cyd(), 77), numbered(6, 6), burn(3, zed(), 1), pull(3, bob(), ann(), 1)}
	paused := calling(1, 1, 9)
	paused.Token = 4
	for _, x := range []struct {
		letter api.Letter
		code   api.Errno
	}{
		{move(3, bob(), 41), 85}, {move(5, bob(), 0), 81}, {move(4, bob(), 1), 83}, {burn(3, bob(), 41), 85}, {burn(3, bob(), 0), 110}, {allow(5, bob(), 1), 81}, {pull(3, bob(), cyd(), 9), 86}, {pull(3, cyd(), bob(), 1), 86},
		{numbered(5, 4), 90}, {numbered(5, full), 90}, {numbered(6, 1), 90}, {tokened(7, 5), 124}, {tokened(8, 3), 124}, {tokened(9, 4), 124}, {coding([]byte{99}), 100},
		{calling(7, 0, 9), 125}, {calling(3, 1, 9), 105}, {calling(2, 1, busyGas-1), 102}, {calling(1, 41, 9), 85}, {paused, 83},
	} {
		for at := range 8 {
			for n := at + 1; n <= 8; n++ {
				parts := slices.Clone(good[:n])
				parts[at] = x.letter
				b := over(t, world(t), nil)
				what := fmt.Sprintf("%d as part %d of %d", int(x.code), at+1, n)
				wantAnswer(t, what, b.wantApply(t, what, 7, call(t, ann(), many(parts...))), answer{receipt: api.Receipt{Code: x.code, Part: at + 1}})
				b.wantCounted(t, what, false)
				// What was taken back leaves no number behind.
				next := b.wantApply(t, what, 8, call(t, ann(), many(burn(3, bob(), 1), coding(echo(t)))))
				if next.receipt != (api.Receipt{Number: 5, First: 5, Leaves: 1}) {
					t.Errorf("%s: the next one: %v", what, next)
				}
			}
		}
	}
}

// A burn of nothing is no leaf: it is told behind what Burn tells, and ahead of the outbox, which is not asked.
func TestP12_4_BurnNothing(t *testing.T) {
	key := balanceKey(3, ann())
	for _, first := range append(steps(running(3), asked(key)), turn{code: 110, do: func(*scene) {}}) {
		x := scene{world(t), map[string]api.Errno{}, ann(), burn(3, bob(), 0)}
		for _, then := range []turn{missing("o"), formless("o"), holds("o", inEight(full)+ones(1), 114), holds(key, "", 110)} {
			if then.key == first.key {
				continue
			}
			then.on(&x)
			first.on(&x)
			b := over(t, x.has, x.refuses)
			what := fmt.Sprintf("burn nothing, %d at %q", int(first.code), first.key)
			wantAnswer(t, what, b.wantApply(t, what, 7, call(t, ann(), x.letter)), first.answer())
			b.wantCounted(t, what, first.whole)
			if slices.Contains(b.source.asked, "o") {
				t.Errorf("%s: asked %q", what, b.source.asked)
			}
		}
	}
}

func TestP12_4_NoLetter(t *testing.T) {
	good := bytesOf(t, move(3, bob(), 1))
	for _, body := range [][]byte{
		nil, {0}, {13}, {99}, {12, 0}, {5}, {5, 0}, {5, 1, 0}, {5, 1, 1, 0}, good[:len(good)-1], append(slices.Clone(good), 0), make([]byte, 4096),
		{12, 1, 1, 1, 4, 12, 1, 1, 0}, // several within several
		{11, 1, 3, 0, 1, 1, 0, 0},     // a call without gas
		slices.Concat([]byte{10, 2, 4, 1}, make([]byte, 1025)),
	} {
		b := over(t, world(t), nil)
		what := fmt.Sprintf("the body %.30x", body)
		wantAnswer(t, what, b.wantApply(t, what, 7, api.Entry{Kind: api.EntryCall, Sender: ann(), Body: body}), coded(api.ErrExecLetter))
		b.wantCounted(t, what, false)
		if !slices.Equal(b.source.asked, []string{"ne"}) {
			t.Errorf("%s: asked %q", what, b.source.asked)
		}
	}
}

// The admin is the one that stands there, by every byte; nobody else, whoever stands near.
func TestP12_4_TheAdmins(t *testing.T) {
	z := zed()
	for _, admin := range []api.Address{z, {}, homeOf(1)} {
		others := []api.Address{ann(), bob(), homeOf(2)}
		for i := range admin {
			other := admin
			other[i] ^= 1 << (i % 8)
			others = append(others, other)
		}
		for _, l := range []api.Letter{tokened(7, 5), tokened(8, 3), tokened(9, 4), tokened(7, 3), tokened(8, 4), tokened(9, 3), tokened(8, 5), tokened(9, 5)} {
			has := world(t)
			has["a"] = string(admin[:])
			for _, other := range others {
				b := over(t, has, nil)
				wantAnswer(t, "another one's", b.wantApply(t, "another one's", 7, call(t, other, l)), coded(api.ErrExecAdmin))
				b.wantCounted(t, "another one's", false)
				if !slices.Equal(b.source.asked, []string{"ne", "a"}) {
					t.Errorf("another one's letter asked %q", b.source.asked)
				}
			}
			b := over(t, has, nil)
			if got := b.wantApply(t, "the admin's", 7, call(t, admin, l)); got.receipt.Code == api.ErrExecAdmin {
				t.Errorf("the admin's letter %v: %v", l, got)
			}
		}
	}
	// The admin has no other rights: no ticket of somebody else's, no balance.
	for l, code := range map[int]api.Errno{api.LetterCancel: api.ErrTicketSender} {
		b := over(t, world(t), nil)
		wantAnswer(t, "the admin's", b.wantApply(t, "the admin's", 7, call(t, z, numbered(l, 5))), coded(code))
	}
}

func TestP12_4_Codes(t *testing.T) {
	for _, code := range [][]byte{{99}, {28}, {2}, {2, 0}, {2, 33}, {14, 0, 1}, {4, 16}, {5, 0}, make([]byte, 1024)[:1023:1023]} {
		wanted := machine.Check(code)
		for _, made := range []string{"", inEight(1), "?", inEight(full)} { // a code that is none is told ahead of what is asked
			has := world(t)
			has["np"] = made
			b := over(t, has, nil)
			got := b.wantApply(t, "code", 7, call(t, ann(), coding(code)))
			if wanted != api.OK {
				wantAnswer(t, fmt.Sprintf("code %x", code), got, coded(wanted))
				if !slices.Equal(b.source.asked, []string{"ne"}) {
					t.Errorf("code %x asked %q", code, b.source.asked)
				}
			}
		}
	}
	for _, made := range []int{0, 1, 4, 255, 1 << 39, full - 2, full - 1, full} {
		has := map[string]string{"ne": inEight(7), "np": inEight(made), programOf(made + 1): "whatever stands there"}
		if made == 0 {
			has["np"] = ""
		}
		b := over(t, has, nil)
		what := fmt.Sprint("code behind ", made)
		got := b.wantApply(t, what, 7, call(t, ann(), coding(echo(t))))
		if made == full {
			wantAnswer(t, what, got, coded(api.ErrExecFull))
			b.wantCounted(t, what, false)
			continue
		}
		wantAnswer(t, what, got, answer{receipt: api.Receipt{Number: made + 1}})
		if c := changesOf(b.state); c["np"][1] != inEight(made+1) || c[programOf(made+1)][1] != string(echo(t)) || len(c) != 3 {
			t.Errorf("%s: the changes are %q", what, c)
		}
		ran := b.wantApply(t, what, 8, call(t, bob(), calling(made+1, 0, 9, of(3))))
		wantAnswer(t, what+", called", ran, answer{receipt: api.Receipt{Value: of(3), Gas: 3}})
	}
}

// wantCall does one call of a program of lines, which is number 1, in the world; the answer's receipt is wanted.
func wantCall(t testing.TB, l api.Letter, wanted api.Receipt, lines ...string) both {
	t.Helper()
	has := world(t)
	has[programOf(1)] = string(program(t, lines...))
	b := over(t, has, nil)
	wantAnswer(t, fmt.Sprint(lines), b.wantApply(t, fmt.Sprint(lines), 7, call(t, ann(), l)), answer{receipt: wanted})
	if wanted.Code != api.OK {
		b.wantCounted(t, fmt.Sprint(lines), false)
	}
	return b
}

// What a program is called with.
func TestP12_4_TheCall(t *testing.T) {
	number := func(a api.Address) api.Wide { return wideOf(numberIn(string(a[:]))) }
	l := calling(1, 2, 100, of(5), of(6), of(7))
	told := func(value api.Wide, gas int) api.Receipt { return api.Receipt{Value: value, Gas: gas} }
	wantCall(t, l, told(number(ann()), 3), "caller", "done")
	wantCall(t, l, told(number(homeOf(1)), 3), "self", "done")
	wantCall(t, l, told(of(3), 3), "token", "done")
	wantCall(t, l, told(of(2), 3), "amount", "done")
	wantCall(t, l, told(of(1234567), 3), "time", "done")
	wantCall(t, l, told(of(98), 3), "gas", "done")
	wantCall(t, l, told(of(3), 3), "args", "done")
	wantCall(t, l, told(of(6), 3), "arg 1", "done")
	wantCall(t, calling(1, 0, 100), told(of(0), 3), "args", "done")
	wantCall(t, calling(1, 0, 2), told(of(0), 2), "push 0", "done")
	for _, time := range []int{0, 1, 1 << 62} {
		has := world(t)
		has[programOf(1)] = string(program(t, "time", "done"))
		e := call(t, ann(), calling(1, 0, 9))
		e.Time = time
		wantAnswer(t, "time", over(t, has, nil).wantApply(t, "time", 7, e), answer{receipt: api.Receipt{Value: of(uint64(time)), Gas: 3}})
	}
	// With 0 of a token that is not there, or is paused, nothing is moved; with 1 it is refused ahead of the run.
	for token, code := range map[int]api.Errno{4: 83, 5: 81, 63: 81} {
		l := calling(1, 0, 9)
		l.Token = token
		wantCall(t, l, told(of(uint64(token)), 3), "token", "done")
		l.Amount = of(1)
		wantCall(t, l, api.Receipt{Code: code}, "token", "done")
	}
	wantCall(t, calling(1, 41, 9), api.Receipt{Code: 85}, "token", "done")
	wantCall(t, calling(1, 40, 9), told(of(40), 3), "amount", "done")
	for _, number := range []int{5, 1 << 20, full} {
		b := over(t, world(t), nil)
		for i, amount := range []uint64{0, 3, 41} {
			wantAnswer(t, "no program", b.wantApply(t, "no program", 7+i, call(t, ann(), calling(number, amount, 9))), coded(api.ErrExecProgram))
		}
	}
}

// A run that ends with an error takes back what came along, and what the program laid and sent.
func TestP12_4_RunsThatEnd(t *testing.T) {
	begin := []string{"push 1", "push 77", "save", "push 3", "push 9", "push 1", "send"} // 705 gas
	for _, x := range []struct {
		gas  int
		end  []string
		code api.Errno
	}{
		{10000, []string{"stop"}, 105}, {10000, []string{"push 1"}, 106}, {10000, []string{"pop"}, 103}, {10000, []string{"push 1", "push 2", "sub"}, 104},
		{10000, []string{"L:", "jump L"}, 102}, {706, []string{"push 1", "done"}, 102}, {705, []string{"push 1", "done"}, 102}, {704, nil, 102}, {1, nil, 102},
		{10000, []string{"push 3", "push 9", "push 2", "send", "push 1", "done"}, 85}, {10000, []string{"push 64", "push 9", "push 0", "send"}, 104},
		{10000, []string{"push 5", "push 9", "push 0", "send"}, 81}, {10000, []string{"push 4", "push 9", "push 0", "send"}, 83}, {10000, []string{"push 64", "push 9", "have"}, 104},
	} {
		wantCall(t, calling(1, 2, x.gas), api.Receipt{Code: x.code}, append(slices.Clone(begin), x.end...)...)
	}
	b := wantCall(t, calling(1, 2, 707), api.Receipt{Value: of(1), Gas: 707}, append(slices.Clone(begin), "push 1", "done")...)
	if c := changesOf(b.state); c[slotOf(1, of(1))][1] != value32(77) || c[balanceKey(3, homeOf(1))][1] != value32(1) || len(c) != 5 {
		t.Errorf("the changes are %q", c)
	}
}

func TestP12_5_Slots(t *testing.T) {
	save := func(slot, value api.Wide) api.Letter { return calling(4, 0, 500, slot, value) }
	b := over(t, world(t), nil)
	index := 7
	do := func(l api.Letter, value api.Wide) {
		t.Helper()
		wantAnswer(t, "a slot", b.wantApply(t, "a slot", index, call(t, bob(), l)), answer{receipt: api.Receipt{Value: value, Gas: 407}})
		index++
	}
	stands := func(number int, slot api.Wide, wanted string) {
		t.Helper()
		b.said.get(slotOf(number, slot))
		if got, e := b.state.Get(slotOf(number, slot)); string(got) != wanted || e != api.OK {
			t.Errorf("in slot %v of %d stands %x, %d", slot, number, got, int(e))
		}
	}
	for _, slot := range []api.Wide{of(0), of(1), of(2), {0, 1}, less(1), less(2)} {
		do(save(slot, of(0)), of(0)) // whether one stood there or not
		stands(4, slot, "")
		do(save(slot, of(1)), of(1))
		stands(4, slot, value32(1))
		do(save(slot, less(1)), less(1))
		stands(4, slot, greatest(1))
	}
	do(save(of(0), of(0)), of(0))
	stands(4, of(0), "")
	stands(4, of(1), greatest(1))
	stands(2, of(1), value32(11)) // another program's
	stands(3, of(1), "")
	// The other program's slots are its own, under the same numbers.
	b.wantApply(t, "another program's", index, call(t, cyd(), calling(2, 0, 10000)))
	stands(2, of(2), value32(21))
	stands(4, of(2), greatest(1))
}

func TestP12_5_HaveAndSend(t *testing.T) {
	have := func(token int, who api.Address, wanted uint64) {
		t.Helper()
		wantCall(t, calling(1, 2, 300), api.Receipt{Value: of(wanted), Gas: 203}, fmt.Sprint("push ", token), "push "+asNumber(who), "have", "done")
	}
	have(3, ann(), 38) // behind what came along
	have(3, homeOf(1), 2)
	have(3, bob(), 10)
	have(3, cyd(), 0)
	have(4, ann(), 20) // paused
	have(5, ann(), 0)  // not there
	send := func(amount uint64, to api.Address, wanted api.Receipt) both {
		t.Helper()
		return wantCall(t, calling(1, 2, 600), wanted, "push 3", "push "+asNumber(to), fmt.Sprint("push ", amount), "send", "push 7", "done")
	}
	done := api.Receipt{Value: of(7), Gas: 505}
	for _, amount := range []uint64{0, 1, 2} {
		for _, to := range []api.Address{ann(), bob(), cyd(), homeOf(1), homeOf(2), {}} {
			b := send(amount, to, done)
			was, e := ledger.Balance(stateOver(t, tableWith(t, world(t))), 3, to)
			got, f := ledger.Balance(b.state, 3, to)
			wanted := was[0] + amount
			switch to {
			case ann():
				wanted -= 2
			case homeOf(1):
				wanted = 2
			}
			if got != of(wanted) || e != api.OK || f != api.OK {
				t.Errorf("%d was sent to %x, who has %v", amount, to, got)
			}
		}
	}
	for _, to := range []api.Address{ann(), homeOf(1), homeOf(2)} { // not even to itself
		send(3, to, api.Receipt{Code: 85})
	}
	// What goes in the upper bytes of an address as a number is let go.
	b := wantCall(t, calling(1, 2, 600), done, "push 3", "push 1461501637330902918203684832716283019655932542977", "push 1", "send", "push 7", "done")
	if got, _ := ledger.Balance(b.state, 3, api.Address{19: 1}); got != of(1) {
		t.Errorf("00..01 has %v", got)
	}
}

// Parts are done over what the parts ahead of them laid, by the same caller.
func TestP12_4_PartsOverParts(t *testing.T) {
	want := func(by api.Address, wanted answer, parts ...api.Letter) {
		t.Helper()
		b := over(t, world(t), nil)
		wantAnswer(t, fmt.Sprint(parts), b.wantApply(t, fmt.Sprint(parts), 7, call(t, by, many(parts...))), wanted)
	}
	leaf := func(index, token int, to api.Address, amount uint64) api.Leaf {
		return api.Leaf{Index: index, Entry: 7, Token: token, To: to, Amount: of(amount)}
	}
	refusedAt := func(part int, code api.Errno) answer { return answer{receipt: api.Receipt{Code: code, Part: part}} }
	want(zed(), answer{}, tokened(7, 5), numbered(5, 6), tokened(8, 5), tokened(9, 5))
	want(zed(), refusedAt(1, 81), numbered(5, 6), tokened(7, 5))
	want(zed(), refusedAt(2, 82), tokened(7, 5), tokened(7, 5))
	want(zed(), refusedAt(3, 83), tokened(7, 5), tokened(8, 5), numbered(5, 6))
	want(ann(), refusedAt(2, 90), numbered(5, 5), numbered(6, 5))
	want(ann(), refusedAt(2, 90), numbered(6, 5), numbered(6, 5))
	want(ann(), answer{api.Receipt{First: 5, Leaves: 3}, []api.Leaf{leaf(5, 3, bob(), 30), leaf(6, 5, ann(), 9), leaf(7, 3, cyd(), 10)}, 0},
		burn(3, bob(), 30), numbered(6, 6), burn(3, cyd(), 10))
	want(ann(), refusedAt(3, 85), burn(3, bob(), 30), numbered(6, 6), burn(3, cyd(), 11))
	want(ann(), refusedAt(2, 110), burn(3, bob(), 30), burn(3, bob(), 0))
	want(ann(), answer{receipt: api.Receipt{Number: 7}}, coding(echo(t)), coding(echo(t)), coding(echo(t)), move(3, bob(), 1))
	want(ann(), answer{receipt: api.Receipt{Number: 5, Value: of(9), Gas: 3}}, coding(echo(t)), calling(5, 0, 50, of(9)), move(3, bob(), 1))
	want(ann(), refusedAt(1, 125), calling(5, 0, 50, of(9)), coding(echo(t)))
	want(ann(), answer{receipt: api.Receipt{Value: of(2), Gas: 9}}, calling(1, 0, 50, of(9)), calling(1, 0, 3, of(1)), calling(1, 0, 50, of(2)))
	want(ann(), answer{receipt: api.Receipt{Value: of(0), Gas: 6}}, calling(1, 0, 50, of(9)), calling(1, 0, 50), move(3, bob(), 1)) // the last one's, also of nought
	want(ann(), answer{receipt: api.Receipt{Number: 5, Value: of(9), Gas: 410}}, calling(4, 0, 500, of(1), of(3)), coding(echo(t)), calling(1, 0, 50, of(9)))
	want(ann(), refusedAt(3, 102), calling(1, 0, 50, of(9)), calling(4, 0, 500, of(1), of(3)), calling(1, 0, 2, of(2)))
	want(ann(), answer{}, move(3, bob(), 40), pull(3, bob(), ann(), 8), move(3, cyd(), 8))
	want(ann(), refusedAt(3, 86), move(3, bob(), 40), pull(3, bob(), ann(), 8), pull(3, bob(), ann(), 1))
	want(cyd(), refusedAt(1, 85), burn(3, bob(), 1))
	want(cyd(), refusedAt(8, 91), append(slices.Repeat([]api.Letter{move(3, bob(), 0)}, 7), numbered(6, 5))...)
	want(zed(), refusedAt(3, 125), tokened(7, 5), tokened(7, 6), calling(5, 0, 9))
}

// The admin of a part is the caller of the letter: a program is never the caller of anything.
func TestP12_4_WhoCalls(t *testing.T) {
	b := over(t, world(t), nil)
	wantAnswer(t, "parts by ann", b.wantApply(t, "parts by ann", 7, call(t, ann(), many(move(3, zed(), 1), tokened(7, 5)))), answer{receipt: api.Receipt{Code: 124, Part: 2}})
	wantAnswer(t, "parts by zed", b.wantApply(t, "parts by zed", 8, call(t, zed(), many(allow(3, ann(), 1), tokened(7, 5)))), answer{})
	got, e := ledger.Allowed(b.state, 3, zed(), ann())
	if got != of(1) || e != api.OK {
		t.Errorf("zed allows ann %v, %d", got, int(e))
	}
}

// At the last index of the outbox one leaf goes, and of two none.
func TestP12_4_TheLastLeaf(t *testing.T) {
	has := world(t)
	has["o"] = inEight(full-1) + ones(40)
	b := over(t, has, nil)
	wantAnswer(t, "two leaves", b.wantApply(t, "two leaves", 7, call(t, ann(), many(burn(3, bob(), 1), burn(3, bob(), 2)))), answer{receipt: api.Receipt{Code: 114, Part: 2}})
	b.wantCounted(t, "two leaves", false)
	wanted := answer{api.Receipt{First: full - 1, Leaves: 1}, []api.Leaf{{Index: full - 1, Entry: 8, Token: 3, To: bob(), Amount: of(1)}}, 0}
	wantAnswer(t, "the last leaf", b.wantApply(t, "the last leaf", 8, call(t, ann(), burn(3, bob(), 1))), wanted)
	wantAnswer(t, "one more", b.wantApply(t, "one more", 9, call(t, ann(), numbered(6, 5))), coded(114))
	if size, e := outbox.Size(b.state); size != full || e != api.OK {
		t.Errorf("the outbox has %d, %d", size, int(e))
	}
}

// A body that has as many bytes as it may, of parts with codes.
func TestP12_4_GreatLetters(t *testing.T) {
	code := []byte(strings.Repeat("\x03", 1024))
	b := over(t, world(t), nil)
	wantAnswer(t, "three codes", b.wantApply(t, "three codes", 7, call(t, ann(), many(coding(code), coding(code), coding(code), coding(code[:900])))), answer{receipt: api.Receipt{Number: 8}})
	for n, size := range map[int]int{5: 1024, 6: 1024, 7: 1024, 8: 900} {
		if got := changesOf(b.state)[programOf(n)][1]; len(got) != size {
			t.Errorf("program %d has %d bytes", n, len(got))
		}
	}
}
