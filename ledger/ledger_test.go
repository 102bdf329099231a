package ledger

import (
	"fmt"
	"maps"
	"math"
	"math/big"
	"slices"
	"testing"

	"causeway/api"
	"causeway/store"
)

func ann() api.Address { return api.Address{1} }
func bob() api.Address { return api.Address{19: 2} }
func cyd() api.Address { return api.Address{3, 19: 0xff} }

const all = 1<<64 - 1

func of(n uint64) api.Wide { return api.Wide{n} }

// below is 2^256 less n.
func below(n uint64) api.Wide { return api.Wide{-n, all, all, all} }

// scripted is a source that has some values, refuses at some keys, and writes down what it is asked.
type scripted struct {
	has     map[string]string
	refuses map[string]api.Errno
	asked   []string
}

func (s *scripted) Find(key string) ([]byte, api.Errno) {
	s.asked = append(s.asked, key)
	if e := s.refuses[key]; e != api.OK {
		return []byte("beside an error"), e
	}
	return []byte(s.has[key]), api.OK
}

// both is a state and what it is by the words.
type both struct {
	source *scripted
	state  *store.State
	said   *shelf
}

func over(t testing.TB, has map[string]string, refuses map[string]api.Errno) both {
	t.Helper()
	source := &scripted{has: has, refuses: refuses}
	s, e := store.Over(source)
	if e != api.OK {
		t.Fatalf("Over: %d", e)
	}
	return both{source, s, newShelf(has, refuses)}
}

func stateOver(t testing.TB, source store.Source) *store.State {
	t.Helper()
	s, e := store.Over(source)
	if e != api.OK {
		t.Fatalf("Over: %d", e)
	}
	return s
}

func changesOf(s *store.State) map[string][2]string {
	told := map[string][2]string{}
	for _, c := range s.Changes() {
		told[c.Key] = [2]string{string(c.Old), string(c.New)}
	}
	return told
}

func wantErr(t testing.TB, what string, got, wanted api.Errno) {
	t.Helper()
	if got != wanted {
		t.Errorf("%s: %d, not %d", what, int(got), int(wanted))
	}
}

func wantAnswer(t testing.TB, what string, got, wanted answer) {
	t.Helper()
	if got != wanted {
		t.Errorf("%s: %v, not %v", what, got, wanted)
	}
}

// wantCall makes a call in a state and by the words: they must answer the same, ask the same, and leave the same.
func (b both) wantCall(t testing.TB, what string, c call) answer {
	t.Helper()
	got, wanted := c.do(b.state), c.say(b.said)
	if got == wanted && slices.Equal(b.source.asked, b.said.asked) && slices.Equal(b.state.Touched(), b.said.touched()) && maps.Equal(changesOf(b.state), b.said.changes()) {
		return got
	}
	what += fmt.Sprintf(": %v in %.200q", c, b.source.has)
	wantAnswer(t, what, got, wanted)
	if !slices.Equal(b.source.asked, b.said.asked) {
		t.Errorf("%s: asked %q, not %q", what, b.source.asked, b.said.asked)
	}
	if got, wanted := b.state.Touched(), b.said.touched(); !slices.Equal(got, wanted) {
		t.Errorf("%s: touched %q, not %q", what, got, wanted)
	}
	if got, wanted := changesOf(b.state), b.said.changes(); !maps.Equal(got, wanted) {
		t.Errorf("%s: changes %q, not %q", what, got, wanted)
	}
	return got
}

// value32 is an amount as it stands in a store.
func value32(a api.Wide) string { return inBytes(bigOf(a)) }

func runningWith(supply api.Wide) string { return "\x01" + value32(supply) }
func pausedWith(supply api.Wide) string  { return "\x03" + value32(supply) }

// zeros are bytes of nought.
func zeros(n int) string { return string(make([]byte, n)) }

func TestErrorsNumbers(t *testing.T) {
	for e, n := range map[api.Errno]int{
		api.OK: 0, api.ErrArg: 1, api.ErrStoreForm: 75, api.ErrLedgerToken: 80, api.ErrLedgerNone: 81,
		api.ErrLedgerThere: 82, api.ErrLedgerPaused: 83, api.ErrLedgerRuns: 84, api.ErrLedgerFunds: 85,
		api.ErrLedgerAllowed: 86, api.ErrLedgerOver: 87, api.ErrStoreKey: 70, api.ErrStoreValue: 71,
		api.ErrStoreMark: 72, api.ErrStoreBytes: 73, api.ErrStoreMissing: 74,
	} {
		if int(e) != n {
			t.Errorf("an error has the number %d, not %d", int(e), n)
		}
	}
	if api.MaxTokens != 64 {
		t.Errorf("MaxTokens is %d", api.MaxTokens)
	}
}

func TestR1_Nil(t *testing.T) {
	for _, name := range names() {
		for _, token := range []int{5, -1, 64} {
			c := call{name, token, [3]api.Address{ann(), bob(), cyd()}, of(1)}
			wantAnswer(t, name+" of a nil state", c.do(nil), answer{code: api.ErrArg})
		}
	}
}

func TestExamples(t *testing.T) {
	s := stateOver(t, store.NewTable())
	a, b, c := ann(), bob(), cyd()
	token := func(wanted api.Token) {
		t.Helper()
		got, e := Token(s, 5)
		if got != wanted || e != api.OK {
			t.Errorf("Token: %v %d, not %v", got, e, wanted)
		}
	}
	balance := func(who api.Address, wanted api.Wide) {
		t.Helper()
		got, e := Balance(s, 5, who)
		if got != wanted || e != api.OK {
			t.Errorf("Balance of %x: %v %d, not %v", who, got, e, wanted)
		}
	}
	token(api.Token{})
	balance(a, of(0))
	wantErr(t, "Mint", Mint(s, 5, a, of(1)), api.ErrLedgerNone)
	wantErr(t, "Pause", Pause(s, 5), api.ErrLedgerNone)
	wantErr(t, "Resume", Resume(s, 5), api.ErrLedgerNone)
	wantErr(t, "Allow", Allow(s, 5, a, b, of(1)), api.ErrLedgerNone)
	wantErr(t, "Register", Register(s, 5), api.OK)
	wantErr(t, "Register again", Register(s, 5), api.ErrLedgerThere)
	token(api.Token{There: true})
	wantErr(t, "Register(64)", Register(s, 64), api.ErrLedgerToken)
	_, e := Balance(s, -1, a)
	wantErr(t, "Balance(-1)", e, api.ErrLedgerToken)
	wantErr(t, "Mint", Mint(s, 5, a, of(10)), api.OK)
	token(api.Token{There: true, Supply: of(10)})
	balance(a, of(10))
	wantErr(t, "Move(11)", Move(s, 5, a, b, of(11)), api.ErrLedgerFunds)
	wantErr(t, "Move(4)", Move(s, 5, a, b, of(4)), api.OK)
	wantErr(t, "Move(b, b, 4)", Move(s, 5, b, b, of(4)), api.OK)
	wantErr(t, "Move(b, b, 5)", Move(s, 5, b, b, of(5)), api.ErrLedgerFunds)
	wantErr(t, "Pull(1)", Pull(s, 5, c, a, b, of(1)), api.ErrLedgerAllowed)
	wantErr(t, "Allow(5)", Allow(s, 5, a, c, of(5)), api.OK)
	wantErr(t, "Pull(7)", Pull(s, 5, c, a, b, of(7)), api.ErrLedgerAllowed)
	wantErr(t, "Pull(5)", Pull(s, 5, c, a, b, of(5)), api.OK)
	if left, e := Allowed(s, 5, a, c); left != of(0) || e != api.OK {
		t.Errorf("Allowed: %v %d", left, e)
	}
	balance(a, of(1))
	balance(b, of(9))
	wantErr(t, "Mint(2^256 - 10)", Mint(s, 5, b, below(10)), api.ErrLedgerOver)
	wantErr(t, "Mint(2^256 - 11)", Mint(s, 5, b, below(11)), api.OK)
	token(api.Token{There: true, Supply: below(1)})
	wantErr(t, "Pause", Pause(s, 5), api.OK)
	wantErr(t, "Pause again", Pause(s, 5), api.ErrLedgerPaused)
	wantErr(t, "Move(0)", Move(s, 5, a, b, of(0)), api.ErrLedgerPaused)
	wantErr(t, "Allow of one that is paused", Allow(s, 5, a, c, of(1)), api.OK)
	wantErr(t, "Resume", Resume(s, 5), api.OK)
	wantErr(t, "Burn(2)", Burn(s, 5, a, of(2)), api.ErrLedgerFunds)
	wantErr(t, "Burn(1)", Burn(s, 5, a, of(1)), api.OK)
	balance(a, of(0))
	if value, e := s.Get("b\x05" + string(a[:])); len(value) != 0 || e != api.OK {
		t.Errorf("something stands at a balance of nought: %x", value)
	}
}

func TestExamples_Forms(t *testing.T) {
	a := ann()
	s := stateOver(t, &scripted{has: map[string]string{"t\x05": "\x02" + zeros(32), "b\x05" + string(a[:]): zeros(32)}})
	wantAnswer(t, "Token", call{name: "Token", token: 5}.do(s), answer{code: api.ErrStoreForm})
	wantAnswer(t, "Balance", call{"Balance", 5, [3]api.Address{a}, of(0)}.do(s), answer{code: api.ErrStoreForm})
}

// What stands where, written out by hand.
func TestLayout(t *testing.T) {
	s := stateOver(t, store.NewTable())
	a, b := api.Address{0: 0xa1, 19: 0xa2}, api.Address{0: 0xb1, 19: 0xb2}
	wantErr(t, "Register(0)", Register(s, 0), api.OK)
	wantErr(t, "Register(63)", Register(s, 63), api.OK)
	wantErr(t, "Register(7)", Register(s, 7), api.OK)
	wantErr(t, "Mint", Mint(s, 0, a, of(0x0102)), api.OK)
	wantErr(t, "Mint", Mint(s, 63, b, api.Wide{8, 7, 6, 5}), api.OK)
	wantErr(t, "Pause", Pause(s, 63), api.OK)
	wantErr(t, "Allow", Allow(s, 7, a, b, of(3)), api.OK)
	textA, textB := "\xa1"+zeros(18)+"\xa2", "\xb1"+zeros(18)+"\xb2"
	great := zeros(7) + "\x05" + zeros(7) + "\x06" + zeros(7) + "\x07" + zeros(7) + "\x08"
	wanted := map[string][2]string{
		"t\x00":                 {"", "\x01" + zeros(30) + "\x01\x02"},
		"t\x3f":                 {"", "\x03" + great},
		"t\x07":                 {"", "\x01" + zeros(32)},
		"b\x00" + textA:         {"", zeros(30) + "\x01\x02"},
		"b\x3f" + textB:         {"", great},
		"l\x07" + textA + textB: {"", zeros(31) + "\x03"},
	}
	if got := changesOf(s); !maps.Equal(got, wanted) {
		t.Errorf("what stands there: %q, not %q", got, wanted)
	}
	wantErr(t, "Allow of nought", Allow(s, 7, a, b, of(0)), api.OK)
	wantErr(t, "Burn of all", Burn(s, 0, a, of(0x0102)), api.OK)
	delete(wanted, "l\x07"+textA+textB)
	delete(wanted, "b\x00"+textA)
	wanted["t\x00"] = [2]string{"", "\x01" + zeros(32)}
	if got := changesOf(s); !maps.Equal(got, wanted) {
		t.Errorf("what stands there at last: %q, not %q", got, wanted)
	}
}

func TestP8_1_TokensNumbers(t *testing.T) {
	whose := [3]api.Address{ann(), bob(), cyd()}
	for _, name := range names() {
		for _, token := range []int{-1, 64, 65, 255, 256, 256 + 5, -256, 1 << 32, 1<<32 + 5, math.MinInt, math.MaxInt} {
			b := over(t, map[string]string{tokenKey(5): "no token"}, nil)
			wantAnswer(t, fmt.Sprint(name, token), b.wantCall(t, "a token that may not be", call{name, token, whose, of(1)}), answer{code: api.ErrLedgerToken})
			if len(b.source.asked) != 0 {
				t.Errorf("%s(%d) asked %q", name, token, b.source.asked)
			}
		}
		for _, token := range []int{0, 1, 5, 62, 63} {
			b := over(t, rich(token), nil)
			c := call{name, token, whose, of(1)}
			if got := b.wantCall(t, "a token that may be", c); got.code != rightCode(name) {
				t.Errorf("%v: %d", c, got.code)
			}
		}
	}
}

// rich is a store in which ann, bob and cyd have ten of a token each, and may pull ten of each other.
func rich(token int) map[string]string {
	has := map[string]string{tokenKey(token): runningWith(of(30))}
	for _, who := range []api.Address{ann(), bob(), cyd()} {
		has[balanceKey(token, who)] = value32(of(10))
		for _, spender := range []api.Address{ann(), bob(), cyd()} {
			has[allowanceKey(token, who, spender)] = value32(of(10))
		}
	}
	return has
}

// rightCode is what a call of one answers where all is there.
func rightCode(name string) api.Errno {
	switch name {
	case "Register":
		return api.ErrLedgerThere
	case "Resume":
		return api.ErrLedgerRuns
	}
	return api.OK
}

// keysOf are the keys that a row names, in the order in which it asks them, for ann, bob and cyd.
func keysOf(name string, token int) []string {
	tok, a, b, c := tokenKey(token), balanceKey(token, ann()), balanceKey(token, bob()), balanceKey(token, cyd())
	switch name {
	case "Balance":
		return []string{a}
	case "Allowed":
		return []string{allowanceKey(token, ann(), bob())}
	case "Mint", "Burn":
		return []string{tok, a}
	case "Move":
		return []string{tok, a, b}
	case "Allow":
		return []string{tok, allowanceKey(token, ann(), bob())}
	case "Pull":
		return []string{tok, allowanceKey(token, bob(), ann()), b, c}
	}
	return []string{tok}
}

// worldFor is a store in which a call of one does all of its row.
func worldFor(name string, token int) map[string]string {
	has := rich(token)
	switch name {
	case "Register":
		has[tokenKey(token)] = ""
	case "Resume":
		has[tokenKey(token)] = pausedWith(of(30))
	}
	return has
}

func callOf(name string, token int, n uint64) call {
	return call{name, token, [3]api.Address{ann(), bob(), cyd()}, of(n)}
}

// Which keys each call asks, in which order, and that none of the others is asked: the source refuses there.
func TestP8_1_WhichKeys(t *testing.T) {
	for _, name := range names() {
		for _, amount := range []uint64{0, 1, 10} {
			keys := keysOf(name, 9)
			b := over(t, worldFor(name, 9), nil)
			got := b.wantCall(t, "which keys", callOf(name, 9, amount))
			wantErr(t, name, got.code, api.OK)
			if !slices.Equal(b.source.asked, keys) {
				t.Errorf("%s asked %q, not %q", name, b.source.asked, keys)
			}
			if touched := b.state.Touched(); !slices.Equal(touched, slices.Sorted(slices.Values(keys))) {
				t.Errorf("%s touched %q", name, touched)
			}
		}
	}
}

func TestP8_1_SourceRefusesAtOneKey(t *testing.T) {
	refusals := []api.Errno{api.ErrArg, api.ErrWideOver, api.ErrStoreMissing, api.ErrStoreForm, api.ErrLedgerFunds, 9999, -1}
	for _, name := range names() {
		for i, key := range keysOf(name, 9) {
			for _, refusal := range refusals {
				refuses := map[string]api.Errno{key: refusal}
				b := over(t, worldFor(name, 9), refuses)
				c := callOf(name, 9, 1)
				for range 2 { // a refusal is not kept
					wantAnswer(t, name, b.wantCall(t, "refused", c), answer{code: refusal})
					if len(b.state.Changes()) != 0 || len(b.state.Touched()) != i {
						t.Errorf("%s, refused at %q: touched %q, changes %q", name, key, b.state.Touched(), b.state.Changes())
					}
				}
				wanted := append(slices.Clone(keysOf(name, 9)[:i+1]), key)
				if !slices.Equal(b.source.asked, wanted) {
					t.Errorf("%s, refused at %q, asked %q", name, key, b.source.asked)
				}
				delete(refuses, key)
				if got := b.wantCall(t, "told at last", c); got.code != api.OK {
					t.Errorf("%s, told at last: %d", name, got.code)
				}
			}
		}
	}
}

// A value that the store does not take is told by the store's error.
func TestP8_1_TooLongForTheStore(t *testing.T) {
	for _, name := range names() {
		for _, key := range keysOf(name, 9) {
			has := worldFor(name, 9)
			has[key] = zeros(4097)
			b := over(t, has, nil)
			wantAnswer(t, name, b.wantCall(t, "too long", callOf(name, 9, 1)), answer{code: api.ErrStoreValue})
			has[key] = zeros(4096)
			if name == "Allow" && key != tokenKey(9) {
				continue
			}
			b = over(t, has, nil)
			wantAnswer(t, name, b.wantCall(t, "too long", callOf(name, 9, 1)), answer{code: api.ErrStoreForm})
		}
	}
}

// badTokens are values that no token has.
func badTokens() []string {
	bad := []string{"\x01", "\x03", zeros(32), zeros(33), value32(of(1)), "\x01" + zeros(31), "\x01" + zeros(33), "\x03" + zeros(31), "\x03" + zeros(33), "\x01" + value32(of(1)) + "\x00"}
	for first := range 256 {
		if first != 1 && first != 3 {
			bad = append(bad, string([]byte{byte(first)})+value32(of(30)))
		}
	}
	return bad
}

// badAmounts are values that no balance and no allowance has.
func badAmounts() []string {
	return []string{zeros(32), zeros(31), zeros(33), zeros(1), "\x01", value32(of(10))[1:], "\x00" + value32(of(10)), value32(of(10)) + "\x00", value32(below(1)) + "\xff", zeros(64)}
}

func TestP8_1_Forms(t *testing.T) {
	for _, name := range names() {
		for i, key := range keysOf(name, 9) {
			bad := badAmounts()
			if key == tokenKey(9) {
				bad = badTokens()
			}
			if name == "Allow" && i == 1 {
				continue // what stood there is not looked at
			}
			for _, value := range bad {
				for _, amount := range []uint64{0, 1, 10} {
					has := worldFor(name, 9)
					has[key] = value
					b := over(t, has, nil)
					wantAnswer(t, fmt.Sprintf("%s with %x at %q", name, value, key), b.wantCall(t, "form", callOf(name, 9, amount)), answer{code: api.ErrStoreForm})
					if len(b.state.Changes()) != 0 || len(b.state.Touched()) != i+1 {
						t.Errorf("%s with %x at %q: touched %q, changed %q", name, value, key, b.state.Touched(), b.state.Changes())
					}
				}
			}
		}
	}
}

func TestP8_1_AllowLooksAtNothing(t *testing.T) {
	key := allowanceKey(9, ann(), bob())
	for _, value := range append(badAmounts(), badTokens()...) {
		for _, amount := range []uint64{0, 7} {
			has := rich(9)
			has[key] = value
			b := over(t, has, nil)
			wantErr(t, "Allow", b.wantCall(t, "Allow", callOf("Allow", 9, amount)).code, api.OK)
			wantAnswer(t, "Allowed", b.wantCall(t, "Allowed", callOf("Allowed", 9, 0)), answer{amount: of(amount)})
		}
	}
}

// Where two errors apply, the one that the row names first: each row of this table turns one thing of a world in which the call would be done, so that of two neighbours both apply.
func TestP8_1_WhichErrorFirst(t *testing.T) {
	a, b, c := balanceKey(9, ann()), balanceKey(9, bob()), balanceKey(9, cyd())
	tok, let := tokenKey(9), allowanceKey(9, bob(), ann())
	type turn struct {
		key, value string
		refuse     api.Errno // by the source
		code       api.Errno // what the call answers then
	}
	missing := func(key string) turn { return turn{key, "", api.ErrStoreMissing, api.ErrStoreMissing} }
	form := func(key string) turn { return turn{key, "?", 0, api.ErrStoreForm} }
	is := func(key, value string, code api.Errno) turn { return turn{key, value, 0, code} }
	for _, x := range []struct {
		name   string
		amount api.Wide
		turns  []turn
	}{
		{"Mint", of(5), []turn{missing(tok), form(tok), is(tok, "", 81), is(tok, pausedWith(below(1)), 83), is(tok, runningWith(below(5)), 87), missing(a), form(a), is(a, value32(below(5)), 75)}},
		{"Burn", of(5), []turn{missing(tok), form(tok), is(tok, "", 81), is(tok, pausedWith(of(4)), 83), missing(a), form(a), is(a, value32(of(4)), 85), is(tok, runningWith(of(4)), 75)}},
		{"Move", of(5), []turn{missing(tok), form(tok), is(tok, "", 81), is(tok, pausedWith(of(9)), 83), missing(a), form(a), is(a, value32(of(4)), 85), missing(b), form(b), is(b, value32(below(5)), 75)}},
		{"Pull", of(5), []turn{missing(tok), form(tok), is(tok, "", 81), is(tok, pausedWith(of(9)), 83), missing(let), form(let), is(let, value32(of(4)), 86), missing(b), form(b), is(b, value32(of(4)), 85), missing(c), form(c), is(c, value32(below(5)), 75)}},
	} {
		for i, first := range x.turns {
			for _, then := range x.turns[i:] {
				if then.key == first.key && then != first {
					continue // one value can not be two
				}
				has, refuses := rich(9), map[string]api.Errno{}
				for _, w := range []turn{then, first} {
					has[w.key] = w.value
					if w.refuse != 0 {
						refuses[w.key] = w.refuse
					}
				}
				s := over(t, has, refuses)
				what := fmt.Sprintf("%s: %v ahead of %v", x.name, first, then)
				got := s.wantCall(t, what, call{x.name, 9, [3]api.Address{ann(), bob(), cyd()}, x.amount})
				wantErr(t, what, got.code, first.code)
				if len(s.state.Changes()) != 0 {
					t.Errorf("%s: something was laid: %q", what, s.state.Changes())
				}
			}
		}
	}
}

// The rows that look at a token alone.
func TestP8_1_TokenRows(t *testing.T) {
	running, paused := runningWith(of(7)), pausedWith(of(7))
	for _, x := range []struct {
		name, value string
		token       api.Token
		code        api.Errno
		behind      string
	}{
		{"Token", "", api.Token{}, 0, ""},
		{"Token", running, api.Token{There: true, Supply: of(7)}, 0, running},
		{"Token", paused, api.Token{There: true, Paused: true, Supply: of(7)}, 0, paused},
		{"Token", runningWith(below(1)), api.Token{There: true, Supply: below(1)}, 0, runningWith(below(1))},
		{"Register", "", api.Token{}, 0, runningWith(of(0))},
		{"Register", running, api.Token{}, 82, running},
		{"Register", paused, api.Token{}, 82, paused},
		{"Register", runningWith(of(0)), api.Token{}, 82, runningWith(of(0))},
		{"Register", pausedWith(of(0)), api.Token{}, 82, pausedWith(of(0))},
		{"Pause", "", api.Token{}, 81, ""},
		{"Pause", running, api.Token{}, 0, paused},
		{"Pause", paused, api.Token{}, 83, paused},
		{"Pause", runningWith(below(1)), api.Token{}, 0, pausedWith(below(1))},
		{"Pause", runningWith(of(0)), api.Token{}, 0, pausedWith(of(0))},
		{"Resume", "", api.Token{}, 81, ""},
		{"Resume", running, api.Token{}, 84, running},
		{"Resume", runningWith(of(0)), api.Token{}, 84, runningWith(of(0))},
		{"Resume", paused, api.Token{}, 0, running},
		{"Resume", pausedWith(below(1)), api.Token{}, 0, runningWith(below(1))},
	} {
		for _, token := range []int{0, 63} {
			b := over(t, map[string]string{tokenKey(token): x.value}, nil)
			got := b.wantCall(t, "a token's row", call{name: x.name, token: token})
			wantAnswer(t, x.name, got, answer{token: x.token, code: x.code})
			if value, _ := b.state.Get(tokenKey(token)); string(value) != x.behind {
				t.Errorf("%s of %x: %x stands there, not %x", x.name, x.value, value, x.behind)
			}
		}
	}
}

// What is told of balances and allowances, whether the token is there or not.
func TestP8_1_Told(t *testing.T) {
	for _, token := range append(badTokens()[:12], "", runningWith(of(1)), pausedWith(of(1))) {
		for _, amount := range []api.Wide{{}, of(1), below(1), {0, 1}, {1, 2, 3, 4}} {
			value := value32(amount)
			if amount == (api.Wide{}) {
				value = ""
			}
			b := over(t, map[string]string{tokenKey(9): token, balanceKey(9, ann()): value, allowanceKey(9, ann(), bob()): value}, nil)
			wantAnswer(t, "Balance", b.wantCall(t, "told", callOf("Balance", 9, 0)), answer{amount: amount})
			wantAnswer(t, "Allowed", b.wantCall(t, "told", callOf("Allowed", 9, 0)), answer{amount: amount})
			// Another's, and of another token, is another one.
			wantAnswer(t, "Balance of bob", call{"Balance", 9, [3]api.Address{bob()}, of(0)}.do(b.state), answer{})
			wantAnswer(t, "Balance of another token", callOf("Balance", 8, 0).do(b.state), answer{})
			wantAnswer(t, "Allowed the other way round", call{"Allowed", 9, [3]api.Address{bob(), ann()}, of(0)}.do(b.state), answer{})
			wantAnswer(t, "Allowed of another token", callOf("Allowed", 8, 0).do(b.state), answer{})
		}
	}
}

// amounts to be tried against what is there: nought, one, all, one more or less, and the greatest.
func amounts() []api.Wide {
	return []api.Wide{of(0), of(1), of(9), of(10), of(11), {0, 1}, below(11), below(10), below(1)}
}

// stands are values that a balance or an allowance may have, or not.
func stands() []string {
	return []string{"", value32(of(1)), value32(of(10)), value32(below(10)), value32(below(1)), zeros(32), zeros(31)}
}

// Every row over every way in which its keys may stand.
func TestP8_1_EveryWorld(t *testing.T) {
	tokens := []string{"", runningWith(of(0)), runningWith(of(10)), runningWith(of(20)), runningWith(below(10)), runningWith(below(1)), pausedWith(of(20)), "\x02" + value32(of(20)), "\x01" + zeros(31)}
	if testing.Short() {
		tokens = tokens[2:4]
	}
	codes := map[string]map[api.Errno]int{}
	for _, name := range names()[6:] {
		codes[name] = map[api.Errno]int{}
		for _, token := range tokens {
			for _, from := range stands() {
				for _, to := range stands() {
					eachAllowance(name, func(allowed string) {
						for _, amount := range amounts() {
							for _, whose := range whoms() {
								has := map[string]string{tokenKey(0): token, balanceKey(0, ann()): from, balanceKey(0, bob()): to}
								for _, spender := range whoms() {
									has[allowanceKey(0, spender[1], spender[0])] = allowed
								}
								got := over(t, has, nil).wantCall(t, "every world", call{name, 0, whose, amount})
								codes[name][got.code]++
							}
						}
					})
				}
			}
		}
	}
	// None of the errors that a row names is left out.
	wanted := map[string][]api.Errno{"Mint": {0, 75, 81, 83, 87}, "Burn": {0, 75, 81, 83, 85}, "Move": {0, 75, 81, 83, 85}, "Allow": {0, 75, 81}, "Pull": {0, 75, 81, 83, 85, 86}}
	for name, all := range wanted {
		if got := slices.Sorted(maps.Keys(codes[name])); !testing.Short() && !slices.Equal(got, all) {
			t.Errorf("%s answered %v, not %v", name, got, all)
		}
	}
}

// whoms are the ways in which who asks, who gives and who takes may be one.
func whoms() [][3]api.Address {
	a, b := ann(), bob()
	return [][3]api.Address{{a, b, b}, {b, a, b}, {a, a, b}, {a, a, a}}
}

// eachAllowance goes through allowances, if a call looks at one.
func eachAllowance(name string, do func(string)) {
	if name != "Pull" {
		do("")
		return
	}
	for _, allowed := range stands() {
		do(allowed)
	}
}

func TestP8_1_AmountsOfNought(t *testing.T) {
	for _, name := range []string{"Mint", "Burn", "Move", "Pull"} {
		// Nobody has anything, nothing is allowed, nothing is there of the token.
		b := over(t, map[string]string{tokenKey(9): runningWith(of(0))}, nil)
		wantErr(t, name, b.wantCall(t, "nought", callOf(name, 9, 0)).code, api.OK)
		wantErr(t, name, b.wantCall(t, "one", callOf(name, 9, 1)).code, map[string]api.Errno{"Burn": 85, "Move": 85, "Pull": 86}[name])
	}
	b := over(t, map[string]string{tokenKey(9): runningWith(below(1)), balanceKey(9, ann()): value32(below(1))}, nil)
	wantErr(t, "Mint of nought", b.wantCall(t, "nought", callOf("Mint", 9, 0)).code, api.OK)
	wantErr(t, "Mint of one more", b.wantCall(t, "one", callOf("Mint", 9, 1)).code, api.ErrLedgerOver)
}

func TestP8_1_AllThatIsThere(t *testing.T) {
	for _, n := range []api.Wide{of(1), of(10), {0, 1}, {0, 0, 0, 1}, below(1)} {
		more := wideOf(new(big.Int).Add(bigOf(n), big.NewInt(1)))
		has := map[string]string{tokenKey(9): runningWith(n), balanceKey(9, ann()): value32(n), allowanceKey(9, ann(), cyd()): value32(n)}
		for _, c := range []call{
			{"Burn", 9, [3]api.Address{ann()}, n}, {"Move", 9, [3]api.Address{ann(), bob()}, n},
			{"Move", 9, [3]api.Address{ann(), ann()}, n}, {"Pull", 9, [3]api.Address{cyd(), ann(), bob()}, n},
			{"Pull", 9, [3]api.Address{cyd(), ann(), ann()}, n}, {"Pull", 9, [3]api.Address{cyd(), ann(), cyd()}, n},
		} {
			if n != below(1) {
				one := c
				one.amount = more
				wanted := map[string]api.Errno{"Burn": 85, "Move": 85, "Pull": 86}[c.name]
				wantErr(t, fmt.Sprint(one), over(t, has, nil).wantCall(t, "one more", one).code, wanted)
			}
			wantErr(t, fmt.Sprint(c), over(t, has, nil).wantCall(t, "all", c).code, api.OK)
		}
	}
}

func TestP8_1_FromIsTo(t *testing.T) {
	// The greatest balance is no reason to refuse where nothing turns.
	for _, supply := range []api.Wide{below(1), of(1)} {
		has := map[string]string{tokenKey(9): runningWith(supply), balanceKey(9, ann()): value32(below(1)), allowanceKey(9, ann(), bob()): value32(of(5))}
		b := over(t, has, nil)
		wantErr(t, "Move", b.wantCall(t, "from is to", call{"Move", 9, [3]api.Address{ann(), ann()}, below(1)}).code, api.OK)
		if len(b.state.Changes()) != 0 {
			t.Errorf("Move to oneself changes %q", b.state.Changes())
		}
		wantErr(t, "Pull", b.wantCall(t, "from is to", call{"Pull", 9, [3]api.Address{bob(), ann(), ann()}, of(3)}).code, api.OK)
		wanted := map[string][2]string{allowanceKey(9, ann(), bob()): {value32(of(5)), value32(of(2))}}
		if got := changesOf(b.state); !maps.Equal(got, wanted) {
			t.Errorf("Pull to oneself changes %q", got)
		}
	}
}

// A spender who pulls of their own balance needs an allowance too.
func TestP8_1_OwnBalance(t *testing.T) {
	has := rich(9)
	delete(has, allowanceKey(9, ann(), ann()))
	b := over(t, has, nil)
	pull := call{"Pull", 9, [3]api.Address{ann(), ann(), bob()}, of(1)}
	wantErr(t, "Pull", b.wantCall(t, "own", pull).code, api.ErrLedgerAllowed)
	wantErr(t, "Allow", b.wantCall(t, "own", call{"Allow", 9, [3]api.Address{ann(), ann()}, of(1)}).code, api.OK)
	wantErr(t, "Pull", b.wantCall(t, "own", pull).code, api.OK)
	wantErr(t, "Pull", b.wantCall(t, "own", pull).code, api.ErrLedgerAllowed)
}
