package ledger

import (
	"bytes"
	"fmt"
	"maps"
	"math/big"
	"math/rand"
	"strings"
	"testing"

	"causeway/api"
	"causeway/store"
)

// people are the addresses of long scripts: some alike but for one byte.
func people() []api.Address {
	return []api.Address{{}, ann(), bob(), cyd(), {1, 19: 2}}
}

// told is all that the calls here tell of a state, of some tokens.
type told struct {
	tokens  map[int]api.Token
	has     map[[21]byte]api.Wide // by token and address
	allowed map[[41]byte]api.Wide // by token, owner and spender
}

func hasKey(token int, who api.Address) (key [21]byte) {
	key[0] = byte(token)
	copy(key[1:], who[:])
	return key
}

func allowedKey(token int, owner, spender api.Address) (key [41]byte) {
	key[0] = byte(token)
	copy(key[1:], owner[:])
	copy(key[21:], spender[:])
	return key
}

// tellsAll asks a state for all, of the tokens of long scripts.
func tellsAll(t testing.TB, s *store.State) told {
	t.Helper()
	all := told{map[int]api.Token{}, map[[21]byte]api.Wide{}, map[[41]byte]api.Wide{}}
	for _, token := range scriptTokens() {
		x, e := Token(s, token)
		wantErr(t, "Token", e, api.OK)
		all.tokens[token] = x
		for _, who := range people() {
			n, e := Balance(s, token, who)
			wantErr(t, "Balance", e, api.OK)
			all.has[hasKey(token, who)] = n
			for _, spender := range people() {
				n, e := Allowed(s, token, who, spender)
				wantErr(t, "Allowed", e, api.OK)
				all.allowed[allowedKey(token, who, spender)] = n
			}
		}
	}
	return all
}

func sameTold(a, b told) bool {
	return maps.Equal(a.tokens, b.tokens) && maps.Equal(a.has, b.has) && maps.Equal(a.allowed, b.allowed)
}

func scriptTokens() []int { return []int{0, 5, 63} }

// drawnCall is a call of a long script: more often one that is done than by mere chance.
func drawnCall(r *rand.Rand) call {
	list := []string{"Token", "Register", "Pause", "Resume", "Resume", "Resume", "Balance", "Allowed", "Mint", "Mint", "Burn", "Burn", "Move", "Move", "Move", "Allow", "Allow", "Pull", "Pull", "Pull"}
	c := call{name: list[r.Intn(len(list))], token: scriptTokens()[r.Intn(3)]}
	for i := range c.whose {
		c.whose[i] = people()[r.Intn(len(people()))]
	}
	switch r.Intn(8) {
	case 0:
		c.amount = below(uint64(r.Intn(60)))
	case 1:
		c.amount = api.Wide{r.Uint64(), r.Uint64(), r.Uint64(), r.Uint64() >> r.Intn(64)}
	case 2: // nought
	default:
		c.amount = of(uint64(r.Intn(20)))
	}
	return c
}

// wantSums holds the balances that stand in a store together against the supplies.
func wantSums(t testing.TB, what string, s *store.State) {
	t.Helper()
	sums, supplies := map[byte]*big.Int{}, map[byte]*big.Int{}
	for _, key := range s.Touched() {
		value, _ := s.Get(key)
		n := new(big.Int).SetBytes(value)
		switch key[0] {
		case 't':
			if len(value) > 0 {
				supplies[key[1]] = n.SetBytes(value[1:])
			}
		case 'b':
			if sums[key[1]] == nil {
				sums[key[1]] = new(big.Int)
			}
			sums[key[1]].Add(sums[key[1]], n)
		}
	}
	for token, sum := range sums {
		if supply := supplies[token]; supply == nil && sum.Sign() != 0 || supply != nil && supply.Cmp(sum) != 0 {
			t.Errorf("%s: the balances of token %d are %v together, the supply is %v", what, token, sum, supply)
		}
	}
	for token, supply := range supplies {
		if sums[token] == nil && supply.Sign() != 0 {
			t.Errorf("%s: token %d has the supply %v, and nobody has any", what, token, supply)
		}
	}
}

// otherKeys is a table in which other layers' keys stand.
func otherKeys() *store.Table {
	table := store.NewTable()
	for _, key := range []string{"a", "ne", "nt", "k\x00\x00\x00\x00\x00\x00\x00\x01", "o", "s"} {
		table.Put(key, []byte("another's"))
	}
	return table
}

func TestP8_3_SumsBehindEachStep(t *testing.T) {
	steps := 600
	if testing.Short() {
		steps = 100
	}
	codes := map[api.Errno]int{}
	for seed := range 12 {
		r := rand.New(rand.NewSource(int64(seed)))
		table := otherKeys()
		s := stateOver(t, table)
		said := newShelf(map[string]string{}, nil)
		for range steps {
			c := drawnCall(r)
			got := c.do(s)
			wantAnswer(t, fmt.Sprint(c), got, c.say(said))
			codes[got.code]++
			wantSums(t, fmt.Sprint(c), s)
			if got.code == api.ErrStoreForm {
				t.Fatalf("%v answers ErrStoreForm", c)
			}
		}
		wantErr(t, "Apply", table.Apply(s.Changes()...), api.OK)
		again := stateOver(t, table)
		if !sameTold(tellsAll(t, again), tellsAll(t, s)) {
			t.Errorf("over the table that comes of it other things are told")
		}
		for key, value := range table.All() {
			if strings.IndexByte("tbl", key[0]) < 0 && !bytes.Equal(value, []byte("another's")) {
				t.Errorf("another layer's key was laid: %q", key)
			}
		}
	}
	for _, e := range []api.Errno{0, 81, 82, 83, 84, 85, 86, 87} {
		if codes[e] < 10 && !testing.Short() {
			t.Errorf("the scripts met %d %d times", e, codes[e])
		}
	}
}

// turned is what a call that was done is to turn, by the words of P8.4.
func (x told) turned(c call) {
	grow := func(who api.Address) {
		key := hasKey(c.token, who)
		x.has[key] = wideOf(plus(bigOf(x.has[key]), bigOf(c.amount)))
	}
	shrink := func(who api.Address) {
		key := hasKey(c.token, who)
		x.has[key] = wideOf(new(big.Int).Sub(bigOf(x.has[key]), bigOf(c.amount)))
	}
	token := x.tokens[c.token]
	switch c.name {
	case "Register":
		token.There = true
	case "Pause":
		token.Paused = true
	case "Resume":
		token.Paused = false
	case "Mint":
		token.Supply = wideOf(plus(bigOf(token.Supply), bigOf(c.amount)))
		grow(c.whose[0])
	case "Burn":
		token.Supply = wideOf(new(big.Int).Sub(bigOf(token.Supply), bigOf(c.amount)))
		shrink(c.whose[0])
	case "Move":
		shrink(c.whose[0])
		grow(c.whose[1])
	case "Allow":
		x.allowed[allowedKey(c.token, c.whose[0], c.whose[1])] = c.amount
	case "Pull":
		key := allowedKey(c.token, c.whose[1], c.whose[0])
		x.allowed[key] = wideOf(new(big.Int).Sub(bigOf(x.allowed[key]), bigOf(c.amount)))
		shrink(c.whose[1])
		grow(c.whose[2])
	}
	x.tokens[c.token] = token
}

func TestP8_4_WhoseAndByHowMuch(t *testing.T) {
	done := map[string]int{}
	for seed := range 10 {
		r := rand.New(rand.NewSource(int64(100 + seed)))
		s := stateOver(t, store.NewTable())
		now := tellsAll(t, s)
		for range 300 {
			c := drawnCall(r)
			ahead := now.tokens[c.token]
			got := c.do(s)
			if got.code == api.OK {
				done[c.name]++
				now.turned(c)
			}
			if is := tellsAll(t, s); !sameTold(is, now) {
				t.Fatalf("behind %v (%d) it is %v, not %v", c, got.code, is, now)
			}
			turns := c.name == "Mint" || c.name == "Burn" || c.name == "Move" || c.name == "Pull"
			if turns && got.code == api.OK && (!ahead.There || ahead.Paused) {
				t.Errorf("%v was done of a token that is %v", c, ahead)
			}
		}
	}
	for _, name := range names() {
		if done[name] < 10 {
			t.Errorf("the scripts did %s %d times", name, done[name])
		}
	}
}

// What is not there, and what is paused, stays as it is, whatever is called.
func TestP8_4_NoneAndPaused(t *testing.T) {
	for _, rests := range []bool{false, true} {
		s := stateOver(t, store.NewTable())
		if rests {
			wantErr(t, "Register", Register(s, 5), api.OK)
			wantErr(t, "Mint", Mint(s, 5, ann(), of(10)), api.OK)
			wantErr(t, "Allow", Allow(s, 5, ann(), bob(), of(10)), api.OK)
			wantErr(t, "Pause", Pause(s, 5), api.OK)
		}
		ahead := tellsAll(t, s)
		r := rand.New(rand.NewSource(4))
		for range 400 {
			c := drawnCall(r)
			if c.token == 5 && (c.name == "Register" || c.name == "Resume" || c.name == "Allow") {
				continue
			}
			c.do(s)
		}
		behind := tellsAll(t, s)
		for _, who := range people() {
			if key := hasKey(5, who); ahead.has[key] != behind.has[key] {
				t.Errorf("the balance of %x has turned", who)
			}
			for _, spender := range people() {
				if key := allowedKey(5, who, spender); ahead.allowed[key] != behind.allowed[key] {
					t.Errorf("the allowance of %x and %x has turned", who, spender)
				}
			}
		}
		if ahead.tokens[5] != behind.tokens[5] {
			t.Errorf("the token has turned")
		}
	}
}

func TestP8_5_RefusedChangesNothing(t *testing.T) {
	refused := map[string]int{}
	for seed := range 10 {
		r := rand.New(rand.NewSource(int64(200 + seed)))
		s := stateOver(t, store.NewTable())
		for range 300 {
			c := drawnCall(r)
			ahead, changes := tellsAll(t, s), changesOf(s)
			if c.do(s).code == api.OK {
				continue
			}
			refused[c.name]++
			if !sameTold(ahead, tellsAll(t, s)) || !maps.Equal(changes, changesOf(s)) {
				t.Fatalf("%v was refused, and has changed something", c)
			}
		}
	}
	for _, name := range names()[6:] {
		if refused[name] < 10 {
			t.Errorf("the scripts were refused %s %d times", name, refused[name])
		}
	}
}

func TestP8_2_TwoStates(t *testing.T) {
	table := store.NewTable()
	for key, value := range rich(5) {
		table.Put(key, []byte(value))
	}
	root := table.Root()
	r := rand.New(rand.NewSource(2))
	one, two, alone := stateOver(t, table), stateOver(t, table), stateOver(t, table.Copy())
	for range 500 {
		c := drawnCall(r)
		wantAnswer(t, fmt.Sprint(c), c.do(one), c.do(alone))
		drawnCall(r).do(two)
	}
	if !sameTold(tellsAll(t, one), tellsAll(t, alone)) {
		t.Errorf("a state is told otherwise than one that is alone")
	}
	if sameTold(tellsAll(t, one), tellsAll(t, two)) {
		t.Errorf("two states became one")
	}
	if table.Root() != root {
		t.Errorf("the table was turned")
	}
}

// A call's answer hangs on what stands there: steps that were taken back leave nothing.
func TestP8_2_MarksAndBack(t *testing.T) {
	for seed := range 10 {
		r := rand.New(rand.NewSource(int64(300 + seed)))
		s := stateOver(t, store.NewTable())
		said := newShelf(map[string]string{}, nil)
		for range 40 {
			c := drawnCall(r)
			wantAnswer(t, fmt.Sprint(c), c.do(s), c.say(said))
		}
		mark, ahead, was := s.Mark(), tellsAll(t, s), changesOf(s)
		for range 5 {
			for range 30 {
				drawnCall(r).do(s)
			}
			wantErr(t, "Back", s.Back(mark), api.OK)
			if !sameTold(tellsAll(t, s), ahead) || !maps.Equal(changesOf(s), was) {
				t.Fatalf("Back does not bring back what was there")
			}
		}
		for range 40 {
			c := drawnCall(r)
			wantAnswer(t, fmt.Sprint(c), c.do(s), c.say(said))
		}
	}
}

// No call leaves a mark or takes one back: that is for those who call.
func TestP8_2_MarksAreTheCallers(t *testing.T) {
	s := stateOver(t, store.NewTable())
	r := rand.New(rand.NewSource(7))
	for i := range 50 {
		if m := s.Mark(); m != i {
			t.Fatalf("the mark %d has the number %d", i, m)
		}
		for range 5 {
			drawnCall(r).do(s)
		}
	}
}

// What was laid in a state by another than these calls counts as what a source has.
func TestP8_2_WhatStandsInTheState(t *testing.T) {
	s := stateOver(t, store.NewTable())
	s.Put(tokenKey(5), []byte(runningWith(of(3))))
	s.Put(balanceKey(5, ann()), []byte(value32(of(8))))
	wantErr(t, "Burn of more than the supply", Burn(s, 5, ann(), of(4)), api.ErrStoreForm)
	wantErr(t, "Burn", Burn(s, 5, ann(), of(3)), api.OK)
	wantErr(t, "Move", Move(s, 5, ann(), bob(), of(5)), api.OK)
	s.Put(balanceKey(5, cyd()), []byte(zeros(32)))
	wantErr(t, "Move to a balance that is none", Move(s, 5, bob(), cyd(), of(5)), api.ErrStoreForm)
	s.Put(balanceKey(5, cyd()), nil)
	wantErr(t, "Move", Move(s, 5, bob(), cyd(), of(5)), api.OK)
}

// FuzzAgainstTheWords takes bytes as what stands in a store, and as calls.
func FuzzAgainstTheWords(f *testing.F) {
	f.Add([]byte(runningWith(of(20))), []byte(value32(of(10))), []byte(value32(below(5))), []byte(value32(of(7))), []byte("\x06\x00\x01\x05\x08\x01\x02\x03\x0a\x04\x01\x03"))
	f.Add([]byte(pausedWith(of(20))), []byte(value32(of(10))), []byte{}, []byte(zeros(32)), []byte("\x03\x00\x00\x00\x07\x01\x02\x03\x09\x04\x01\x03"))
	f.Add([]byte{}, []byte{}, []byte{}, []byte{}, []byte("\x01\x00\x00\x00\x06\x09\x01\x03\x08\x0b\x01\x03\x0a\x0b\x01\x03"))
	f.Fuzz(func(t *testing.T, token, first, second, allowed, script []byte) {
		has := map[string]string{tokenKey(5): string(token)}
		folk := people()[:4]
		for i, who := range folk {
			has[balanceKey(5, who)] = string([][]byte{first, second}[i%2])
			for j, spender := range folk {
				has[allowanceKey(5, who, spender)] = string([][]byte{allowed, nil}[(i+j)%2])
			}
		}
		refuses := map[string]api.Errno{}
		b := over(t, has, refuses)
		for ; len(script) >= 4; script = script[4:] {
			who := script[1]
			c := call{name: names()[script[0]%11], token: 5, whose: [3]api.Address{folk[who%4], folk[who/4%4], folk[who/16%4]}}
			switch script[3] % 4 {
			case 0:
				c.amount = below(uint64(script[2]))
			case 1:
				c.amount = wideOf(new(big.Int).SetBytes(first[:min(32, len(first))]))
			default:
				c.amount = of(uint64(script[2]))
			}
			clear(refuses)
			if script[3] >= 0xf0 {
				refuses[balanceKey(5, folk[script[3]%4])] = api.ErrStoreMissing
			}
			b.wantCall(t, "fuzz", c)
		}
	})
}

func BenchmarkMove(b *testing.B) {
	s := stateOver(b, store.NewTable())
	Register(s, 5)
	Mint(s, 5, ann(), below(1))
	for b.Loop() {
		Move(s, 5, ann(), bob(), of(1))
	}
}

func BenchmarkPull(b *testing.B) {
	s := stateOver(b, store.NewTable())
	Register(s, 5)
	Mint(s, 5, ann(), below(1))
	Allow(s, 5, ann(), cyd(), below(1))
	for b.Loop() {
		Pull(s, 5, cyd(), ann(), bob(), of(1))
	}
}
