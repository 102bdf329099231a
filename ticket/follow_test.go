package ticket

import (
	"fmt"
	"maps"
	"math/big"
	"math/rand"
	"testing"

	"causeway/api"
	"causeway/ledger"
	"causeway/store"
)

// people are the addresses of long scripts: some alike but for one byte.
func people() []api.Address {
	return []api.Address{{}, ann(), bob(), {1, 19: 2}}
}

func scriptTokens() []int { return []int{0, 9, 63} }

func drawnAmount(r *rand.Rand) api.Wide {
	switch r.Intn(10) {
	case 0:
		return below(uint64(r.Intn(40)))
	case 1:
		return api.Wide{r.Uint64(), r.Uint64(), r.Uint64(), r.Uint64() >> r.Intn(64)}
	case 2:
		return of(0)
	}
	return of(uint64(r.Intn(20)))
}

// drawnCall is a call of a long script, where so many tickets were made: more often one that is done than by mere chance.
func drawnCall(r *rand.Rand, made int) call {
	list := []string{"Open", "Open", "Open", "Open", "Find", "Made", "Retry", "Retry", "Retry", "Retry", "Cancel", "Cancel", "Cancel", "Cancel", "Mint", "Burn", "Burn", "Register", "Pause", "Resume", "Resume"}
	whom := func() api.Address { return people()[r.Intn(len(people()))] }
	c := call{name: list[r.Intn(len(list))], by: whom(), number: r.Intn(made + 3)}
	if r.Intn(2) == 0 { // one of the last ones
		c.number = max(0, made-r.Intn(6))
	}
	c.ticket = api.Ticket{Entry: r.Intn(full), Sender: whom(), Token: scriptTokens()[r.Intn(3)], To: whom(), Amount: drawnAmount(r)}
	if r.Intn(30) == 0 {
		badFields()[r.Intn(len(badFields()))](&c.ticket)
		c.ticket.Token = max(0, min(63, c.ticket.Token)) // the ledger's calls have an error of their own for it
	}
	return c
}

// book is what the words of P9.3 and P9.4 keep of a script: what was opened, as the how-manieth, and what is open.
type book struct {
	opened []api.Ticket
	open   map[int]api.Ticket
	sums   map[int]*big.Int // of each token: the supply and the open tickets together
}

func newBook() *book {
	b := &book{open: map[int]api.Ticket{}, sums: map[int]*big.Int{}}
	for _, token := range scriptTokens() {
		b.sums[token] = new(big.Int)
	}
	return b
}

// wantAnswer holds an answer against what the book says of numbers.
func (b *book) wantAnswer(t testing.TB, c call, got answer) {
	t.Helper()
	ticket, open := b.open[c.number]
	switch {
	case c.name == "Open" && got.code == api.OK:
		wantAnswer(t, "Open", got, answer{number: len(b.opened) + 1})
	case c.name == "Made":
		wantAnswer(t, "Made", got, answer{number: len(b.opened)})
	case c.name == "Find" && open:
		wantAnswer(t, "Find", got, answer{ticket: ticket})
	case c.name == "Cancel" && open && c.by == ticket.Sender:
		wantAnswer(t, "Cancel", got, answer{ticket: ticket})
	case c.name == "Cancel" && open:
		wantAnswer(t, "Cancel", got, answer{code: api.ErrTicketSender})
	case (c.name == "Find" || c.name == "Retry" || c.name == "Cancel") && !open:
		wantAnswer(t, fmt.Sprint(c.name, c.number), got, answer{code: api.ErrTicketNone})
	}
	if got.code == api.ErrStoreForm {
		t.Errorf("%v answers ErrStoreForm", c)
	}
}

// write writes down a call that was done.
func (b *book) write(c call) {
	amount := bigOf(c.ticket.Amount)
	turn := func(token int, by *big.Int) { b.sums[token].Add(b.sums[token], by) }
	switch c.name {
	case "Open":
		number := len(b.opened) + 1
		b.opened = append(b.opened, c.ticket)
		b.open[number] = numbered(c.ticket, number)
		turn(c.ticket.Token, amount)
	case "Mint":
		turn(c.ticket.Token, amount)
	case "Burn":
		turn(c.ticket.Token, amount.Neg(amount))
	case "Retry":
		delete(b.open, c.number)
	case "Cancel":
		was := bigOf(b.open[c.number].Amount)
		turn(b.open[c.number].Token, was.Neg(was))
		delete(b.open, c.number)
	}
}

// wantTold holds what a state tells of numbers and of sums against the book.
func (b *book) wantTold(t testing.TB, what string, s *store.State) {
	t.Helper()
	wantAnswer(t, what+": Made", call{name: "Made"}.do(s), answer{number: len(b.opened)})
	sums := map[int]*big.Int{}
	for _, token := range scriptTokens() {
		x, e := ledger.Token(s, token)
		wantErr(t, what+": Token", e, api.OK)
		sums[token] = bigOf(x.Supply)
	}
	for number := -1; number <= len(b.opened)+2; number++ {
		wanted := answer{code: api.ErrTicketNone}
		if x, open := b.open[number]; open {
			wanted = answer{ticket: x}
		}
		got := call{name: "Find", number: number}.do(s)
		wantAnswer(t, fmt.Sprint(what, ": Find ", number), got, wanted)
		if got.code == api.OK {
			sums[got.ticket.Token].Add(sums[got.ticket.Token], bigOf(got.ticket.Amount))
		}
	}
	for token, sum := range sums {
		if sum.Cmp(b.sums[token]) != 0 {
			t.Errorf("%s: the supply and the open tickets of token %d are %v together, not %v", what, token, sum, b.sums[token])
		}
	}
}

// wantClosed: what is not open is not told, retried or cancelled, by nobody.
func (b *book) wantClosed(t testing.TB, s *store.State) {
	t.Helper()
	ahead := changesOf(s)
	for _, number := range []int{-1, 0, len(b.opened) + 1, len(b.opened) + 2, full, full + 1} {
		b.wantNone(t, s, number, ann())
	}
	for i, x := range b.opened {
		if _, open := b.open[i+1]; !open {
			b.wantNone(t, s, i+1, x.Sender)
		}
	}
	if !maps.Equal(ahead, changesOf(s)) {
		t.Errorf("what is not open was changed")
	}
}

func (b *book) wantNone(t testing.TB, s *store.State, number int, by api.Address) {
	t.Helper()
	for _, name := range takesNumber() {
		c := call{name: name, number: number, by: by}
		wantAnswer(t, fmt.Sprint(name, " of ", number), c.do(s), answer{code: api.ErrTicketNone})
	}
}

// otherKeys is a table in which other layers' keys stand.
func otherKeys() *store.Table {
	table := store.NewTable()
	for _, key := range []string{"a", "ne", "np", "n", "o", "s", "p" + zeros(8), "l" + zeros(41)} {
		table.Put(key, []byte("another's"))
	}
	return table
}

func TestP9_3And4_LongScripts(t *testing.T) {
	seeds, steps := 12, 500
	if testing.Short() {
		seeds, steps = 2, 200
	}
	codes := map[string]map[api.Errno]int{}
	for seed := range seeds {
		r := rand.New(rand.NewSource(int64(seed)))
		table, b := otherKeys(), newBook()
		s, said := stateOver(t, table), newShelf(map[string]string{}, nil)
		for range steps {
			c := drawnCall(r, len(b.opened))
			got := c.do(s)
			wantAnswer(t, fmt.Sprint(c), got, c.say(said))
			b.wantAnswer(t, c, got)
			if got.code == api.OK {
				b.write(c)
			}
			if codes[c.name] == nil {
				codes[c.name] = map[api.Errno]int{}
			}
			codes[c.name][got.code]++
			b.wantTold(t, fmt.Sprint("behind ", c), s)
			if t.Failed() {
				t.FailNow()
			}
		}
		b.wantClosed(t, s)
		wantErr(t, "Apply", table.Apply(s.Changes()...), api.OK)
		b.wantTold(t, "over the table that comes of it", stateOver(t, table))
		for key := range otherKeys().All() {
			if value, _ := table.Find(key); string(value) != "another's" {
				t.Errorf("another layer's key was laid: %q", key)
			}
		}
	}
	for name, wanted := range map[string][]api.Errno{"Open": {0, 93}, "Find": {0, 90}, "Retry": {0, 81, 83, 87, 90}, "Cancel": {0, 90, 91}} {
		for _, e := range wanted {
			if codes[name][e] < 10 && !testing.Short() {
				t.Errorf("the scripts met %s with %d %d times", name, e, codes[name][e])
			}
		}
	}
}

// The n-th Open answers n, however many of the tickets ahead of it were closed.
func TestP9_3_NumbersNeverComeAgain(t *testing.T) {
	s, b := stateOver(t, store.NewTable()), newBook()
	wantErr(t, "Register", ledger.Register(s, 9), api.OK)
	for n := 1; n <= 300; n++ {
		opened := callOf("Open")
		wantAnswer(t, "Open", opened.do(s), answer{number: n})
		b.write(opened)
		end := call{name: []string{"Retry", "Cancel", "Find"}[n%3], number: n, by: ann()}
		wantErr(t, fmt.Sprint(end), end.do(s).code, api.OK)
		b.write(end)
	}
	b.wantTold(t, "300 later", stateOver(t, tableOf(t, s)))
	b.wantClosed(t, s)
}

// tableOf is the table that comes of a state over an empty one.
func tableOf(t testing.TB, s *store.State) *store.Table {
	t.Helper()
	table := store.NewTable()
	wantErr(t, "Apply", table.Apply(s.Changes()...), api.OK)
	return table
}

// Amounts whose sum is beyond every wide number are counted all the same.
func TestP9_4_GreatTickets(t *testing.T) {
	s, b := stateOver(t, store.NewTable()), newBook()
	do := func(c call, wanted api.Errno) {
		t.Helper()
		if got := c.do(s); got.code == wanted && wanted == api.OK {
			b.write(c)
		} else {
			wantErr(t, fmt.Sprint(c), got.code, wanted)
		}
		b.wantTold(t, fmt.Sprint("behind ", c), s)
	}
	great := call{name: "Open", ticket: api.Ticket{Sender: ann(), Token: 9, To: bob(), Amount: below(1)}}
	for range 3 {
		do(great, api.OK)
	}
	do(call{name: "Register", ticket: api.Ticket{Token: 9}}, api.OK)
	do(call{name: "Retry", number: 2}, api.OK)
	do(call{name: "Retry", number: 1}, api.ErrLedgerOver)
	do(call{name: "Retry", number: 3}, api.ErrLedgerOver)
	do(call{name: "Cancel", number: 3, by: bob()}, api.ErrTicketSender)
	do(call{name: "Cancel", number: 3, by: ann()}, api.OK)
	do(call{name: "Burn", ticket: api.Ticket{Token: 9, To: bob(), Amount: below(1)}}, api.OK)
	do(call{name: "Retry", number: 1}, api.OK)
	do(call{name: "Retry", number: 1}, api.ErrTicketNone)
}

// A call that is refused leaves all as it was, a Retry among them.
func TestP9_4_RefusedChangesNothing(t *testing.T) {
	refused := map[string]int{}
	for seed := range 8 {
		r := rand.New(rand.NewSource(int64(200 + seed)))
		s := stateOver(t, store.NewTable())
		made := 0
		for range 400 {
			c := drawnCall(r, made)
			ahead := changesOf(s)
			switch got := c.do(s); {
			case got.code != api.OK:
				refused[c.name]++
				wantAnswer(t, fmt.Sprint(c), got, answer{code: got.code})
				if !maps.Equal(ahead, changesOf(s)) {
					t.Fatalf("%v was refused, and has changed something", c)
				}
			case c.name == "Open":
				made++
			}
		}
	}
	for _, name := range []string{"Open", "Find", "Retry", "Cancel"} {
		if refused[name] < 10 {
			t.Errorf("the scripts were refused %s %d times", name, refused[name])
		}
	}
}

func TestP9_2_TwoStates(t *testing.T) {
	table := store.NewTable()
	for key, value := range world() {
		table.Put(key, []byte(value))
	}
	root := table.Root()
	r := rand.New(rand.NewSource(2))
	one, two, alone := stateOver(t, table), stateOver(t, table), stateOver(t, table.Copy())
	for range 600 {
		c := drawnCall(r, 60)
		wantAnswer(t, fmt.Sprint(c), c.do(one), c.do(alone))
		drawnCall(r, 60).do(two)
	}
	if !maps.Equal(changesOf(one), changesOf(alone)) {
		t.Errorf("a state has become another than one that is alone")
	}
	if maps.Equal(changesOf(one), changesOf(two)) {
		t.Errorf("two states became one")
	}
	if table.Root() != root {
		t.Errorf("the table was turned")
	}
}

// Steps that were taken back leave nothing: numbers come again, closed tickets are open.
func TestP9_2_MarksAndBack(t *testing.T) {
	for seed := range 8 {
		r := rand.New(rand.NewSource(int64(300 + seed)))
		s, b := stateOver(t, store.NewTable()), newBook()
		script := func(steps int, also func(call)) {
			for range steps {
				if c := drawnCall(r, len(b.opened)); c.do(s).code == api.OK {
					also(c)
				}
			}
		}
		script(60, b.write)
		mark, was := s.Mark(), changesOf(s)
		for range 5 {
			script(40, func(call) {})
			wantErr(t, "Back", s.Back(mark), api.OK)
			if !maps.Equal(changesOf(s), was) {
				t.Fatalf("Back does not bring back what was there")
			}
			b.wantTold(t, "behind Back", s)
		}
		again := callOf("Open")
		wantAnswer(t, "Open behind Back", again.do(s), answer{number: len(b.opened) + 1})
		b.write(again)
		script(60, b.write)
		b.wantTold(t, "at last", s)
		b.wantClosed(t, s)
	}
}

func TestP9_2_BackOpensAgain(t *testing.T) {
	for _, name := range []string{"Retry", "Cancel", "Open"} {
		b := over(t, world(), nil)
		mark := b.state.Mark()
		wantAnswer(t, name, callOf(name).do(b.state), rightAnswer(name))
		wantErr(t, "Back", b.state.Back(mark), api.OK)
		if len(b.state.Changes()) != 0 {
			t.Errorf("behind Back there are changes: %q", b.state.Changes())
		}
		for _, then := range names() {
			fresh := b.state.Mark()
			wantAnswer(t, then+" behind "+name, callOf(then).do(b.state), rightAnswer(then))
			wantErr(t, "Back", b.state.Back(fresh), api.OK)
		}
	}
}

// No call leaves a mark or takes one back: that is for those who call.
func TestP9_2_MarksAreTheCallers(t *testing.T) {
	s := stateOver(t, store.NewTable())
	r := rand.New(rand.NewSource(7))
	for i := range 50 {
		if m := s.Mark(); m != i {
			t.Fatalf("the mark %d has the number %d", i, m)
		}
		for range 8 {
			drawnCall(r, 3*i).do(s)
		}
	}
}

// What was laid in a state by another than these calls counts as what a source has.
func TestP9_2_WhatStandsInTheState(t *testing.T) {
	s := stateOver(t, store.NewTable())
	s.Put("nt", []byte(eightBytes(8)))
	s.Put(keyOf(5), []byte(textOf(sample())))
	wantAnswer(t, "Open", callOf("Open").do(s), answer{number: 9})
	wantAnswer(t, "Find", callOf("Find").do(s), rightAnswer("Find"))
	s.Put(keyOf(5), []byte("?"))
	wantAnswer(t, "Retry", callOf("Retry").do(s), answer{code: api.ErrStoreForm})
	s.Put("nt", []byte("?"))
	wantAnswer(t, "Open", callOf("Open").do(s), answer{code: api.ErrStoreForm})
	s.Put("nt", nil)
	wantAnswer(t, "Open", callOf("Open").do(s), answer{number: 1})
}

// FuzzAgainstTheWords takes bytes as what stands in a store, and as calls.
func FuzzAgainstTheWords(f *testing.F) {
	f.Add([]byte(eightBytes(1)), []byte(textOf(sample())), []byte(runningWith(of(20))), []byte(value32(of(10))), []byte("\x00\x01\x07\x01\x02\x00\x03\x01\x04\x02"))
	f.Add([]byte(eightBytes(full-1)), []byte(textOf(sample())), []byte(pausedWith(of(20))), []byte{}, []byte("\x00\x01\x03\x01\x07\x00\x03\x01\x04\x01"))
	f.Add([]byte{}, []byte{}, []byte{}, []byte{}, []byte("\x00\x01\x00\x02\x05\x00\x03\x01\x04\x42\x08\x03"))
	f.Add([]byte(eightBytes(all)), []byte(spoilt(0, eightBytes(all))), []byte(runningWith(below(1))), []byte(value32(below(5))), []byte("\x00\x01\x03\x01\x04\x01\xf3\x01"))
	f.Fuzz(func(t *testing.T, made, ticket, token, balance, script []byte) {
		has := map[string]string{"nt": string(made), keyOf(1): string(ticket), keyOf(2): string(ticket), tokenKey(9): string(token), balanceKey(9, bob()): string(balance)}
		refuses := map[string]api.Errno{}
		b := over(t, has, refuses)
		list := append(names(), "Register", "Pause", "Resume", "Mint", "Burn")
		for ; len(script) >= 2; script = script[2:] {
			what, how := script[0], script[1]
			c := callOf(list[int(what&15)%len(list)])
			c.number = int(how % 8)
			if how >= 0x40 {
				c.by = bob()
			}
			c.ticket.Entry, c.ticket.Amount = int(how)<<33, of(uint64(how))
			clear(refuses)
			if what >= 0xf0 {
				refuses[[]string{"nt", keyOf(int(how % 8)), tokenKey(9), balanceKey(9, bob())}[how%4]] = api.ErrStoreMissing
			}
			b.wantCall(t, "fuzz", c)
		}
	})
}

func BenchmarkOpenAndCancel(b *testing.B) {
	s := stateOver(b, store.NewTable())
	for b.Loop() {
		n, _ := Open(s, sample())
		Cancel(s, n, ann())
	}
}
