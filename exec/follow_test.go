package exec

import (
	"fmt"
	"maps"
	"math/big"
	"math/rand"
	"slices"
	"strings"
	"testing"

	"causeway/api"
	"causeway/ledger"
	"causeway/letter"
	"causeway/outbox"
	"causeway/store"
	"causeway/ticket"
)

// people are those of long scripts: the admin is the first, and programs' homes are among them.
func people() []api.Address {
	return []api.Address{zed(), ann(), bob(), cyd(), homeOf(1), homeOf(2)}
}

func scriptTokens() []int { return []int{0, 3, 63} }

// codes are the programs of long scripts; the last one is none.
func codes(t testing.TB) [][]byte {
	return [][]byte{
		echo(t), busy(t),
		program(t, "token", "caller", "amount", "send", "push 1", "done"),
		program(t, "arg 0", "arg 1", "save", "arg 0", "load", "done"),
		program(t, "push 0", "load", "push 1", "add", "dup 0", "push 0", "swap 1", "save", "done"),
		program(t, "token", "arg 1", "arg 0", "send", "arg 0", "done"),
		program(t, "push 1", "arg 0", "save", "stop"),
		{99},
	}
}

func drawnAmount(r *rand.Rand) api.Wide {
	switch r.Intn(12) {
	case 0:
		return less(uint64(r.Intn(60)))
	case 1:
		return api.Wide{r.Uint64(), r.Uint64(), r.Uint64(), r.Uint64() >> r.Intn(64)}
	case 2:
		return of(0)
	}
	return of(uint64(r.Intn(20)))
}

// script draws entries: more often those that are done than by mere chance.
type script struct {
	*rand.Rand
	codes    [][]byte
	tickets  int // how many were made
	programs int
}

func (r *script) whom() api.Address { return people()[r.Intn(len(people()))] }

func (r *script) token() int { return scriptTokens()[r.Intn(len(scriptTokens()))] }

// number is one of so many that were made, more often a late one, now and then none of them.
func (r *script) number(made int) int {
	if r.Intn(2) == 0 {
		return max(1, made-r.Intn(5))
	}
	return 1 + r.Intn(made+2)
}

func (r *script) letter() api.Letter {
	kinds := []int{1, 1, 1, 1, 2, 2, 2, 3, 4, 4, 5, 5, 5, 6, 6, 7, 7, 8, 9, 9, 9, 10, 11, 11, 11}
	l := api.Letter{Kind: kinds[r.Intn(len(kinds))]}
	switch l.Kind {
	case 1, 2, 3, 4:
		l.Token, l.To, l.Amount = r.token(), r.whom(), drawnAmount(r.Rand)
		if l.Kind == 4 {
			l.From = r.whom()
		}
	case 5, 6:
		l.Number = r.number(r.tickets)
	case 7, 8, 9:
		l.Token = r.token()
	case 10:
		l.Code = r.codes[r.Intn(len(r.codes))]
	case 11:
		l.Token, l.Number, l.Gas = r.token(), r.number(r.programs), 1+r.Intn(1250)
		if r.Intn(3) == 0 {
			l.Amount = drawnAmount(r.Rand)
		}
		for range r.Intn(4) {
			l.Args = append(l.Args, of(uint64(r.Intn(3))))
		}
	}
	return l
}

// several is a letter of some parts.
func (r *script) several() api.Letter {
	l := api.Letter{Kind: api.LetterMany}
	for range 1 + r.Intn(1+r.Intn(8)) {
		l.Parts = append(l.Parts, r.letter())
	}
	return l
}

// sender is the one who is most likely to be heard with a letter.
func (r *script) sender(l api.Letter) api.Address {
	if r.Intn(3) > 0 && (l.Kind >= 7 && l.Kind <= 9) {
		return zed()
	}
	return r.whom()
}

func (r *script) entry() api.Entry {
	if r.Intn(5) == 0 {
		e := api.Entry{Kind: api.EntryDeposit, Sender: r.whom(), Time: r.Intn(1000), Token: r.token(), To: r.whom(), Amount: drawnAmount(r.Rand), Gas: 95 + r.Intn(100)}
		if e.Amount == of(0) && r.Intn(3) > 0 { // more often one that may be
			e.Amount = of(1)
		}
		return e
	}
	l := r.letter()
	if r.Intn(3) == 0 {
		l = r.several()
	}
	body, _ := letter.Bytes(l)
	if r.Intn(40) == 0 && len(body) > 0 {
		body[r.Intn(len(body))] ^= 1 << r.Intn(8)
	}
	return api.Entry{Kind: api.EntryCall, Sender: r.sender(l), Time: r.Intn(1000), Body: body}
}

// learn lets the script know what was made.
func (r *script) learn(receipt api.Receipt) {
	switch {
	case receipt.Code == api.ErrExecTicket:
		r.tickets = receipt.Number
	case receipt.Number != 0:
		r.programs = receipt.Number
	}
}

// fate is what has become of a ticket.
type fate struct {
	ticket api.Ticket
	end    string // "open", "minted" or "left"
}

// accounts are what the words of P12.10 keep: of what was executed, told by the entries and their receipts alone.
type accounts struct {
	deposited, supply map[int]*big.Int
	tickets           []fate
	leaves            []api.Leaf
	book              *outbox.Book
}

func newAccounts() *accounts {
	a := &accounts{deposited: map[int]*big.Int{}, supply: map[int]*big.Int{}, book: outbox.New()}
	for _, token := range scriptTokens() {
		a.deposited[token], a.supply[token] = new(big.Int), new(big.Int)
	}
	return a
}

// write writes down an entry that was executed; what does not fit is told.
func (a *accounts) write(t testing.TB, index int, e api.Entry, got answer) {
	t.Helper()
	var left []api.Leaf
	switch {
	case e.Kind == api.EntryDeposit:
		a.writeDeposit(t, index, e, got.receipt)
	case got.receipt.Code == api.OK:
		l, _ := letter.Read(e.Body)
		left = a.writeLetter(t, index, e.Sender, l)
	}
	if !slices.Equal(left, got.leaves) {
		t.Errorf("entry %d: the leaves are %v, not %v", index, got.leaves, left)
	}
	if n := len(got.leaves); got.receipt.Leaves != n || n > 0 && got.receipt.First != len(a.leaves) || n == 0 && got.receipt.First != 0 {
		t.Errorf("entry %d: %d leaves behind %d: %+v", index, n, len(a.leaves), got.receipt)
	}
	for _, l := range got.leaves {
		wantErr(t, "Put", a.book.Put(l), api.OK)
	}
	a.leaves = append(a.leaves, got.leaves...)
}

func (a *accounts) writeDeposit(t testing.TB, index int, e api.Entry, receipt api.Receipt) {
	t.Helper()
	sum := a.deposited[e.Token]
	sum.Add(sum, bigOf(e.Amount))
	if receipt == (api.Receipt{}) {
		a.supply[e.Token].Add(a.supply[e.Token], bigOf(e.Amount))
		return
	}
	number := len(a.tickets) + 1
	if receipt != (api.Receipt{Code: api.ErrExecTicket, Number: number}) {
		t.Errorf("entry %d, a deposit: %+v", index, receipt)
	}
	a.tickets = append(a.tickets, fate{api.Ticket{Number: number, Entry: index, Sender: e.Sender, Token: e.Token, To: e.To, Amount: e.Amount}, "open"})
}

// writeLetter writes down a letter that was done, and tells which leaves must have come of it.
func (a *accounts) writeLetter(t testing.TB, index int, by api.Address, l api.Letter) []api.Leaf {
	t.Helper()
	var left []api.Leaf
	leave := func(token int, to api.Address, amount api.Wide) {
		left = append(left, api.Leaf{Index: len(a.leaves) + len(left), Entry: index, Token: token, To: to, Amount: amount})
	}
	parts := l.Parts
	if l.Kind != api.LetterMany {
		parts = []api.Letter{l}
	}
	for _, part := range parts {
		switch part.Kind {
		case api.LetterBurn:
			a.supply[part.Token].Sub(a.supply[part.Token], bigOf(part.Amount))
			leave(part.Token, part.To, part.Amount)
		case api.LetterRetry:
			x := a.end(t, index, part.Number, "minted")
			a.supply[x.Token].Add(a.supply[x.Token], bigOf(x.Amount))
		case api.LetterCancel:
			x := a.end(t, index, part.Number, "left")
			if x.Sender != by {
				t.Errorf("entry %d: ticket %d was cancelled by another one", index, x.Number)
			}
			leave(x.Token, x.Sender, x.Amount)
		}
	}
	return left
}

// end ends a ticket, which must be open.
func (a *accounts) end(t testing.TB, index, number int, how string) api.Ticket {
	t.Helper()
	if number < 1 || number > len(a.tickets) || a.tickets[number-1].end != "open" {
		t.Fatalf("entry %d: ticket %d was %s, and is not open", index, number, how)
	}
	a.tickets[number-1].end = how
	return a.tickets[number-1].ticket
}

// wantKept holds a table against the accounts.
func (a *accounts) wantKept(t testing.TB, what string, table *store.Table) {
	t.Helper()
	s := stateOver(t, table)
	together := map[int]*big.Int{}
	for _, token := range scriptTokens() {
		x, e := ledger.Token(s, token)
		wantErr(t, what, e, api.OK)
		together[token] = bigOf(x.Supply)
		if together[token].Cmp(a.supply[token]) != 0 {
			t.Errorf("%s: the supply of %d is %v, not %v", what, token, together[token], a.supply[token])
		}
	}
	for i, x := range a.tickets {
		got, e := ticket.Find(s, i+1)
		switch {
		case x.end != "open":
			wantErr(t, fmt.Sprint(what, ": ticket ", i+1), e, api.ErrTicketNone)
		case got != x.ticket || e != api.OK:
			t.Errorf("%s: ticket %d is %v, %d, not %v", what, i+1, got, int(e), x.ticket)
		default:
			together[got.Token].Add(together[got.Token], bigOf(got.Amount))
		}
	}
	for _, l := range a.leaves {
		together[l.Token].Add(together[l.Token], bigOf(l.Amount))
	}
	for token, sum := range together {
		if sum.Cmp(a.deposited[token]) != 0 {
			t.Errorf("%s: of token %d there are %v, and %v were deposited", what, token, sum, a.deposited[token])
		}
	}
	a.wantNoMore(t, what, table)
}

// wantNoMore: the table has no other tickets, and its commit tells the leaves.
func (a *accounts) wantNoMore(t testing.TB, what string, table *store.Table) {
	t.Helper()
	open, wanted := 0, 0
	for key := range table.All() {
		if strings.HasPrefix(key, "k") {
			open++
		}
	}
	for _, x := range a.tickets {
		if x.end == "open" {
			wanted++
		}
	}
	c, e := Commit(table)
	root, _ := a.book.Root(len(a.leaves))
	if open != wanted || c.Leaves != len(a.leaves) || c.Outbox != root || e != api.OK {
		t.Errorf("%s: %d tickets are open, not %d; the commit is %v, %d", what, open, wanted, c, int(e))
	}
}

// wantOnlyTheCount: two tables have the same but for the count.
func wantOnlyTheCount(t testing.TB, what string, was, now map[string]string) {
	t.Helper()
	was, now = maps.Clone(was), maps.Clone(now)
	delete(was, "ne")
	delete(now, "ne")
	if !maps.Equal(was, now) {
		t.Errorf("%s has changed more than the count", what)
	}
}

// runOver does an entry on a table as Run does, and tells how many keys it touches.
func runOver(t testing.TB, table *store.Table, index int, e api.Entry) (answer, int) {
	t.Helper()
	s := stateOver(t, table)
	got := answerOf(Apply(s, index, e))
	if got.code == api.OK {
		wantErr(t, "Apply", table.Apply(s.Changes()...), api.OK)
	}
	return got, len(s.Touched())
}

// Long scripts from Genesis on, against the words and the accounts: what was deposited is there, every time; what is refused changes nothing; no entry touches many keys.
func TestP12_8To10_LongScripts(t *testing.T) {
	seeds, steps := 16, 400
	if testing.Short() {
		seeds, steps = 3, 200
	}
	met := map[string]map[api.Errno]int{}
	for seed := range seeds {
		r := &script{Rand: rand.New(rand.NewSource(int64(seed))), codes: codes(t)}
		table, a := Genesis(zed()), newAccounts()
		said, twin := newShelf(inTable(table), nil), Genesis(zed())
		count := 0
		for range steps {
			e, index := r.entry(), count
			if r.Intn(50) == 0 {
				index += r.Intn(3) - 1
			}
			was := inTable(table)
			what := fmt.Sprintf("seed %d, entry %d: %+v", seed, index, e)
			got, touched := runOver(t, table, index, e)
			wantAnswer(t, what, got, answerOf(said.apply(index, e)))
			wantAnswer(t, what+", by Run", answerOf(Run(twin, index, e)), got)
			if touched > 100 {
				t.Errorf("%s touched %d keys", what, touched)
			}
			tally(met, e, got)
			switch {
			case got.code != api.OK:
				if !maps.Equal(was, inTable(table)) || got.code == api.ErrStoreForm {
					t.Errorf("%s was refused with %d, and has changed something", what, int(got.code))
				}
				continue
			case got.receipt.Code != api.OK && got.receipt.Code != api.ErrExecTicket:
				wantOnlyTheCount(t, what, was, inTable(table))
			}
			count++
			a.write(t, index, e, got)
			r.learn(got.receipt)
			a.wantKept(t, what, table)
			if t.Failed() {
				t.FailNow()
			}
		}
		if twin.Root() != table.Root() || !maps.Equal(inTable(table), told(said)) {
			t.Errorf("seed %d: three tables are not one", seed)
		}
	}
	wantMet(t, met)
}

// told is what a shelf comes to hold.
func told(x *shelf) map[string]string {
	all := maps.Clone(x.has)
	for key, value := range x.now {
		all[key] = value
		if value == "" {
			delete(all, key)
		}
	}
	return all
}

// tally counts what the scripts have met: by the kind of a letter, or of an entry that has none.
func tally(met map[string]map[api.Errno]int, e api.Entry, got answer) {
	name := "deposit"
	if e.Kind == api.EntryCall {
		l, _ := letter.Read(e.Body)
		name = fmt.Sprint("letter ", l.Kind)
	}
	if met[name] == nil {
		met[name] = map[api.Errno]int{}
	}
	if got.code != api.OK {
		met[name][got.code]++
		return
	}
	met[name][got.receipt.Code]++
}

func wantMet(t testing.TB, met map[string]map[api.Errno]int) {
	t.Helper()
	if testing.Short() {
		return
	}
	for name, wanted := range map[string][]api.Errno{
		"deposit": {0, 120, 121, 122}, "letter 0": {123}, "letter 1": {0, 81, 83, 85}, "letter 2": {0, 81, 83, 85, 110}, "letter 3": {0, 81}, "letter 4": {0, 81, 83, 86},
		"letter 5": {0, 81, 83, 90}, "letter 6": {0, 90, 91}, "letter 7": {0, 82, 124}, "letter 8": {0, 83, 124}, "letter 9": {0, 84, 124},
		"letter 10": {0, 100}, "letter 11": {0, 85, 102, 105, 125}, "letter 12": {0, 81, 83, 85, 90, 124},
	} {
		for _, e := range wanted {
			if met[name][e] < 3 {
				t.Errorf("the scripts met %s with %d %d times", name, int(e), met[name][e])
			}
		}
	}
}

// The same over one state, with marks and Back, against the words.
func TestP12_2_LongScriptsOverOneState(t *testing.T) {
	for seed := range 6 {
		r := &script{Rand: rand.New(rand.NewSource(int64(100 + seed))), codes: codes(t)}
		b := over(t, inTable(Genesis(zed())), map[string]api.Errno{})
		type mark struct {
			now   map[string]string
			count int
		}
		var marks []mark
		count := 0
		for range 300 {
			clear(b.source.refuses)
			switch r.Intn(12) {
			case 0:
				if m := b.state.Mark(); m != len(marks) {
					t.Fatalf("the mark %d has the number %d: Apply has made one", len(marks), m)
				}
				marks = append(marks, mark{maps.Clone(b.said.now), count})
				continue
			case 1:
				if len(marks) == 0 {
					continue
				}
				to := r.Intn(len(marks))
				wantErr(t, "Back", b.state.Back(to), api.OK)
				b.said.back(marks[to].now)
				count, marks = marks[to].count, marks[:to+1]
				continue
			case 2: // keys of which it has not told yet are refused
				for _, who := range people() {
					for _, token := range scriptTokens() {
						b.source.refuses[balanceKey(token, who)] = api.ErrStoreMissing
					}
				}
			}
			got := b.wantApply(t, "a long script", count, r.entry())
			if got.code == api.OK {
				count++
				r.learn(got.receipt)
			}
			if t.Failed() {
				t.FailNow()
			}
		}
	}
}

// Amounts whose sum is beyond every wide number are counted all the same.
func TestP12_10_GreatDeposits(t *testing.T) {
	table, a := Genesis(zed()), newAccounts()
	great := depositOf(3, less(1), 100)
	for i, x := range []struct {
		entry api.Entry
		code  api.Errno
	}{
		{great, 122}, {great, 122}, {call(t, zed(), tokened(7, 3)), 0}, {great, 0}, {great, 122}, {depositOf(3, of(1), 100), 122},
		{call(t, cyd(), numbered(5, 1)), 87}, {call(t, bob(), api.Letter{Kind: api.LetterBurn, Token: 3, To: cyd(), Amount: less(1)}), 0}, {call(t, cyd(), numbered(5, 1)), 0}, {call(t, cyd(), numbered(5, 1)), 90},
		{call(t, ann(), numbered(6, 2)), 0}, {call(t, ann(), many(numbered(6, 3), numbered(6, 4))), 0}, {call(t, ann(), numbered(6, 3)), 90},
		{call(t, bob(), move(3, bob(), 5)), 0}, {call(t, bob(), many(api.Letter{Kind: api.LetterBurn, Token: 3, To: bob(), Amount: less(1)}, burn(3, bob(), 1))), 85},
	} {
		got, _ := runOver(t, table, i, x.entry)
		wantErr(t, fmt.Sprint("entry ", i), got.receipt.Code, x.code)
		a.write(t, i, x.entry, got)
		a.wantKept(t, fmt.Sprint("behind ", i), table)
	}
}

// The entry that touches the most keys: eight calls of programs with what comes along, one of which sends as much as its gas allows.
func TestP12_8_TheMostKeys(t *testing.T) {
	table := Genesis(zed())
	index := 0
	run := func(e api.Entry) int {
		t.Helper()
		got, touched := runOver(t, table, index, e)
		if got.code != api.OK || got.receipt.Code != api.OK {
			t.Fatalf("entry %d: %v", index, got)
		}
		index++
		return touched
	}
	for token := range 64 {
		run(call(t, zed(), tokened(7, token)))
		if token < 8 {
			run(api.Entry{Kind: api.EntryDeposit, Sender: ann(), Token: token, To: ann(), Amount: of(9), Gas: 100})
		}
	}
	var lines []string
	for i := range 19 {
		lines = append(lines, fmt.Sprint("push ", 8+i), fmt.Sprint("push ", 1000+i), "push 0", "send")
	}
	run(call(t, ann(), coding(program(t, append(lines, "push 1", "load", "pop", "push 2", "load", "done")...))))
	for range 7 {
		run(call(t, ann(), coding(program(t, "push 0", "done"))))
	}
	var parts []api.Letter
	for i := range 8 {
		l := api.Letter{Kind: api.LetterCall, Number: 1 + i, Token: i, Amount: of(1), Gas: 2}
		if i == 0 {
			l.Gas = 10000 - 14
		}
		parts = append(parts, l)
	}
	if touched := run(call(t, ann(), many(parts...))); touched != 1+8*4+19*3+2 || touched > 100 {
		t.Errorf("the entry touched %d keys", touched)
	}
	// The most of other kinds.
	pulls := many()
	for i := range 8 {
		run(call(t, people()[1], allow(i, cyd(), 5)))
		pulls.Parts = append(pulls.Parts, pull(i, ann(), bob(), 1))
	}
	if touched := run(call(t, cyd(), pulls)); touched != 1+8*4 {
		t.Errorf("eight pulls touched %d keys", touched)
	}
}

// A letter of several against its parts one by one: the store comes to hold the same, but for the count, and the leaves' Entry.
func TestP12_11_SeveralOrOneByOne(t *testing.T) {
	seeds, steps := 10, 600
	if testing.Short() {
		seeds, steps = 3, 150
	}
	done := map[int]int{}
	for seed := range seeds {
		r := &script{Rand: rand.New(rand.NewSource(int64(400 + seed))), codes: codes(t)}
		table, count := Genesis(zed()), 0
		for range steps {
			body, _ := letter.Bytes(r.several())
			e := api.Entry{Kind: api.EntryCall, Sender: r.whom(), Time: r.Intn(1000), Body: body}
			if r.Intn(4) == 0 {
				e.Sender = zed()
			}
			if r.Intn(4) == 0 {
				e = r.entry()
			}
			ahead := table.Copy()
			got, _ := runOver(t, table, count, e)
			if got.code != api.OK {
				continue
			}
			if whole, fault := letter.Read(e.Body); fault == api.OK && whole.Kind == api.LetterMany && got.receipt.Code == api.OK {
				wantOneByOne(t, ahead, count, e, whole.Parts, got, table)
				for _, part := range whole.Parts {
					done[part.Kind]++
				}
			}
			count++
			r.learn(got.receipt)
			if t.Failed() {
				t.FailNow()
			}
		}
	}
	for kind := api.LetterMove; kind <= api.LetterCall; kind++ {
		if done[kind] < 5 && !testing.Short() {
			t.Errorf("of kind %d there were %d parts of letters that were done", kind, done[kind])
		}
	}
}

func wantOneByOne(t testing.TB, table *store.Table, index int, e api.Entry, parts []api.Letter, whole answer, behind *store.Table) {
	t.Helper()
	var all answer
	for i, part := range parts {
		e.Body = bytesOf(t, part)
		got, _ := runOver(t, table, index+i, e)
		if got.code != api.OK || got.receipt.Code != api.OK {
			t.Errorf("part %d of %+v: %v", i+1, parts, got)
		}
		for _, l := range got.leaves {
			if l.Entry != index+i {
				t.Errorf("a leaf of entry %d: %v", index+i, l)
			}
			l.Entry = index
			all.leaves = append(all.leaves, l)
		}
		if part.Kind == api.LetterCode {
			all.receipt.Number = got.receipt.Number
		}
		if part.Kind == api.LetterCall {
			all.receipt.Value, all.receipt.Gas = got.receipt.Value, all.receipt.Gas+got.receipt.Gas
		}
	}
	if len(all.leaves) > 0 {
		all.receipt.First, all.receipt.Leaves = all.leaves[0].Index, len(all.leaves)
	}
	wantAnswer(t, fmt.Sprintf("%+v", parts), whole, all)
	one, many := inTable(table), inTable(behind)
	if one["ne"] != inEight(index+len(parts)) || many["ne"] != inEight(index+1) || len(one["o"]) != len(many["o"]) {
		t.Errorf("%+v: the counts are %x and %x, the outboxes %x and %x", parts, one["ne"], many["ne"], one["o"], many["o"])
	}
	delete(one, "o")
	delete(many, "o")
	wantOnlyTheCount(t, fmt.Sprintf("%+v in several entries", parts), many, one)
}

// FuzzAgainstTheWords takes bytes as what stands in a store, as a program, as a body, and as entries.
func FuzzAgainstTheWords(f *testing.F) {
	z := zed()
	x := api.Ticket{Entry: 2, Sender: ann(), Token: 3, To: bob(), Amount: of(10)}
	f.Add([]byte(inEight(1)), z[:], []byte(runningWith(20)), []byte(value32(10)), []byte(ticketText(x)), echo(f), []byte(inEight(5)+ones(2)), bytesOf(f, move(3, bob(), 3)), []byte("\x00\x10\x21\x32\x43\x54\x65\x76\x87\x98\xa9\xba\xcb"))
	f.Add([]byte(inEight(full-1)), z[:], []byte(pausedWith(20)), []byte{}, []byte{}, busy(f), []byte{}, bytesOf(f, many(burn(3, bob(), 3), coding(echo(f)))), []byte("\xcc\xdd\xee\xff\x01\x11"))
	f.Add([]byte{}, []byte{}, []byte(runningWith(0)), []byte(greatest(3)), []byte(ticketText(x)), []byte{99}, []byte(inEight(full)+ones(1)), bytesOf(f, calling(1, 2, 10000, of(1))), []byte("\xb0\xc1\xb2\xb3\x94"))
	f.Fuzz(func(t *testing.T, count, admin, token, balance, tick, code, box, body, script []byte) {
		has := map[string]string{
			"ne": string(count), "np": string(count), "nt": string(count), "a": string(admin), "o": string(box), tokenKey(3): string(token), tokenKey(0): string(token),
			balanceKey(3, ann()): string(balance), balanceKey(3, homeOf(1)): string(balance), allowanceKey(3, ann(), bob()): string(balance), slotOf(1, of(1)): string(balance),
			ticketOf(1): string(tick), ticketOf(2): string(tick), programOf(1): string(code), programOf(2): string(echo(t)),
		}
		refuses := map[string]api.Errno{}
		b := over(t, has, refuses)
		index := int(int64(numberIn(string(count[:min(8, len(count))])).Uint64()))
		for _, x := range script[:min(len(script), 100)] {
			clear(refuses)
			if x&15 == 15 {
				refuses[slices.Sorted(maps.Keys(has))[int(x>>4)%len(has)]] = likely()[int(x>>4)]
			}
			if b.wantApply(t, "fuzz", index, fuzzed(t, x, code, body)).code == api.OK {
				index++
			}
		}
	})
}

// fuzzed is the entry that a byte stands for.
func fuzzed(t testing.TB, x byte, code, body []byte) api.Entry {
	who := []api.Address{zed(), ann(), bob(), homeOf(1)}[x>>4&3]
	amount, number := uint64(x>>4), 1+int(x>>4&3)
	var l api.Letter
	switch x & 15 {
	case 0:
		return api.Entry{Kind: api.EntryCall, Sender: who, Body: body}
	case 1, 2, 3, 4:
		l = api.Letter{Kind: int(x & 15), Token: 3 * int(x>>7), To: bob(), Amount: of(amount)}
		if l.Kind == api.LetterPull {
			l.From = ann()
		}
	case 5, 6:
		l = numbered(int(x&15), number)
	case 7, 8, 9:
		l = tokened(int(x&15), 3*int(x>>7))
	case 10:
		if len(code) == 0 || len(code) > 1024 {
			return api.Entry{}
		}
		l = coding(code)
	case 11:
		l = calling(number, amount/4, 1+600*int(x>>4), of(amount), of(1))
	case 12:
		l = many(burn(3, bob(), amount), numbered(6, number), calling(number, 0, 1000, of(1)), move(3, cyd(), amount))
	default:
		return depositOf(3*int(x>>7), of(amount), 90+int(x>>3))
	}
	return call(t, who, l)
}

func BenchmarkRunMove(b *testing.B) {
	table := tableWith(b, world(b))
	e := call(b, ann(), move(3, bob(), 0))
	for i := 7; b.Loop(); i++ {
		if _, _, code := Run(table, i, e); code != api.OK {
			b.Fatal(code)
		}
	}
}

func BenchmarkRunBusyAndCommit(b *testing.B) {
	has := world(b)
	has[balanceKey(3, homeOf(2))] = greatest(1000)
	table := tableWith(b, has)
	e := call(b, cyd(), calling(2, 0, 10000))
	for i := 7; b.Loop(); i++ {
		if _, _, code := Run(table, i, e); code != api.OK {
			b.Fatal(code)
		}
		Commit(table)
	}
}
