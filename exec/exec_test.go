package exec

import (
	"bytes"
	"fmt"
	"maps"
	"math"
	"math/big"
	"slices"
	"strings"
	"testing"

	"causeway/api"
	"causeway/ledger"
	"causeway/letter"
	"causeway/machine"
	"causeway/outbox"
	"causeway/store"
	"causeway/ticket"
)

const (
	all  = 1<<64 - 1
	full = 1 << 40
)

// zed is the admin.
func zed() api.Address { return api.Address{9: 9} }
func ann() api.Address { return api.Address{1} }
func bob() api.Address { return api.Address{19: 2} }
func cyd() api.Address { return api.Address{3, 19: 3} }

func of(n uint64) api.Wide { return api.Wide{n} }

// less is 2^256 less n.
func less(n uint64) api.Wide { return api.Wide{-n, all, all, all} }

// zeros are bytes of nought.
func zeros(n int) string { return string(make([]byte, n)) }

// ones are digests that are unlike each other, as they stand in a store.
func ones(n int) string {
	text := ""
	for i := range n {
		text += sha(fmt.Sprint("one ", i))
	}
	return text
}

func value32(n uint64) string     { return inBytes(bigOf(of(n)), 32) }
func runningWith(n uint64) string { return "\x01" + value32(n) }
func pausedWith(n uint64) string  { return "\x03" + value32(n) }
func greatest(n uint64) string    { return inBytes(bigOf(less(n)), 32) }

// scripted is a source that has some values, refuses at some keys, and writes down what it is asked.
type scripted struct {
	has     map[string]string
	refuses map[string]api.Errno
	asked   []string
}

func (s *scripted) Find(key string) ([]byte, api.Errno) {
	s.asked = append(s.asked, key)
	if e := s.refuses[key]; e != api.OK {
		return []byte(s.has[key]), e
	}
	return []byte(s.has[key]), api.OK
}

func stateOver(t testing.TB, source store.Source) *store.State {
	t.Helper()
	s, e := store.Over(source)
	if e != api.OK {
		t.Fatalf("Over: %d", e)
	}
	return s
}

func tableWith(t testing.TB, has map[string]string) *store.Table {
	t.Helper()
	table := store.NewTable()
	for key, value := range has {
		wantErr(t, "Put", table.Put(key, []byte(value)), api.OK)
	}
	return table
}

// inTable is what a table has.
func inTable(table *store.Table) map[string]string {
	has := map[string]string{}
	for key, value := range table.All() {
		has[key] = string(value)
	}
	return has
}

func changesOf(s *store.State) map[string][2]string {
	told := map[string][2]string{}
	for _, c := range s.Changes() {
		told[c.Key] = [2]string{string(c.Old), string(c.New)}
	}
	return told
}

func wantErr(t testing.TB, what string, got, wanted api.Errno) {
	t.Helper()
	if got != wanted {
		t.Errorf("%s: %d, not %d", what, int(got), int(wanted))
	}
}

// answer is what Apply and Run answer.
type answer struct {
	receipt api.Receipt
	leaves  []api.Leaf
	code    api.Errno
}

func (a answer) String() string {
	return fmt.Sprintf("%+v %+v %d", a.receipt, a.leaves, int(a.code))
}

func answerOf(r api.Receipt, l []api.Leaf, e api.Errno) answer { return answer{r, l, e} }

func refused(code api.Errno) answer { return answer{code: code} }
func coded(code api.Errno) answer   { return answer{receipt: api.Receipt{Code: code}} }

func wantAnswer(t testing.TB, what string, got, wanted answer) {
	t.Helper()
	if got.receipt != wanted.receipt || !slices.Equal(got.leaves, wanted.leaves) || got.code != wanted.code {
		t.Errorf("%s: %v, not %v", what, got, wanted)
	}
}

// both is a state and what it is by the words.
type both struct {
	source *scripted
	state  *store.State
	said   *shelf
}

func over(t testing.TB, has map[string]string, refuses map[string]api.Errno) both {
	t.Helper()
	source := &scripted{has: has, refuses: refuses}
	return both{source, stateOver(t, source), newShelf(has, refuses)}
}

// wantApply does an entry in a state and by the words: they must answer the same, ask the same, and leave the same.
func (b both) wantApply(t testing.TB, what string, index int, e api.Entry) answer {
	t.Helper()
	got := answerOf(Apply(b.state, index, e))
	wantAnswer(t, what, got, answerOf(b.said.apply(index, e)))
	if !slices.Equal(b.source.asked, b.said.asked) {
		t.Errorf("%s: asked %q, not %q", what, b.source.asked, b.said.asked)
	}
	if got, wanted := b.state.Touched(), b.said.touched(); !slices.Equal(got, wanted) {
		t.Errorf("%s: touched %q, not %q", what, got, wanted)
	}
	if got, wanted := changesOf(b.state), b.said.changes(); !maps.Equal(got, wanted) {
		t.Errorf("%s: changes %q, not %q", what, got, wanted)
	}
	return got
}

// wantRefused does an entry that is to be refused as a whole: nothing else is told, and nothing is laid.
func (b both) wantRefused(t testing.TB, what string, index int, e api.Entry, wanted api.Errno) {
	t.Helper()
	ahead := changesOf(b.state)
	wantAnswer(t, what, b.wantApply(t, what, index, e), refused(wanted))
	if behind := changesOf(b.state); !maps.Equal(ahead, behind) {
		t.Errorf("%s: was refused, and laid something: %q, not %q", what, behind, ahead)
	}
}

func bytesOf(t testing.TB, l api.Letter) []byte {
	t.Helper()
	b, e := letter.Bytes(l)
	if e != api.OK {
		t.Fatalf("%+v is no letter: %d", l, int(e))
	}
	return b
}

// call is an entry by which somebody sends a letter.
func call(t testing.TB, by api.Address, l api.Letter) api.Entry {
	t.Helper()
	return api.Entry{Kind: api.EntryCall, Sender: by, Time: 1234567, Body: bytesOf(t, l)}
}

// depositOf is a deposit by ann to bob.
func depositOf(token int, amount api.Wide, gas int) api.Entry {
	return api.Entry{Kind: api.EntryDeposit, Sender: ann(), Time: 77, Token: token, To: bob(), Amount: amount, Gas: gas}
}

func program(t testing.TB, lines ...string) []byte {
	t.Helper()
	code, line, e := machine.Assemble(strings.Join(lines, "\n"))
	if e != api.OK {
		t.Fatalf("line %d of %q: %d", line, lines, int(e))
	}
	return code
}

// asNumber is an address as a program writes it.
func asNumber(a api.Address) string { return new(big.Int).SetBytes(a[:]).String() }

func echo(t testing.TB) []byte { return program(t, "arg 0", "done") }

// busy loads slot 1, asks what bob has of token 3, saves both together in slot 2, sends 5 of the token that came along to the caller, and tells what stands in slot 1.
func busy(t testing.TB) []byte {
	return program(t, "push 1", "load", "push 3", "push "+asNumber(bob()), "have", "add", "push 2", "swap 1", "save",
		"token", "caller", "push 5", "send", "push 1", "load", "done")
}

// busyGas is what busy uses.
const busyGas = 1 + 200 + 1 + 1 + 200 + 2 + 1 + 1 + 200 + 2 + 2 + 1 + 500 + 1 + 200 + 1

// world is a store behind seven entries: token 3 runs, 4 is paused, 5 is not there; of six tickets two are open; there are four programs, and five leaves.
func world(t testing.TB) map[string]string {
	z := zed()
	return map[string]string{
		"a": string(z[:]), "ne": inEight(7), "nt": inEight(6), "np": inEight(4), "o": inEight(5) + ones(2),
		tokenKey(3): runningWith(100), tokenKey(4): pausedWith(50),
		balanceKey(3, ann()): value32(40), balanceKey(3, bob()): value32(10), balanceKey(4, ann()): value32(20), balanceKey(3, homeOf(2)): value32(6),
		allowanceKey(3, bob(), ann()): value32(8),
		ticketOf(5):                   ticketText(api.Ticket{Entry: 2, Sender: ann(), Token: 3, To: bob(), Amount: of(10)}),
		ticketOf(6):                   ticketText(api.Ticket{Entry: 3, Sender: ann(), Token: 5, To: bob(), Amount: of(9)}),
		programOf(1):                  string(echo(t)), programOf(2): string(busy(t)),
		programOf(3):         string(program(t, "stop")),
		programOf(4):         string(program(t, "arg 0", "arg 1", "save", "arg 0", "load", "done")),
		slotOf(2, of(1)):     value32(11),
		slotOf(4, of(1)):     value32(5),
		slotOf(4, less(1)):   value32(6),
		slotOf(2, less(999)): "another's",
	}
}

func move(token int, to api.Address, amount uint64) api.Letter {
	return api.Letter{Kind: api.LetterMove, Token: token, To: to, Amount: of(amount)}
}

func burn(token int, to api.Address, amount uint64) api.Letter {
	return api.Letter{Kind: api.LetterBurn, Token: token, To: to, Amount: of(amount)}
}

func allow(token int, to api.Address, amount uint64) api.Letter {
	return api.Letter{Kind: api.LetterAllow, Token: token, To: to, Amount: of(amount)}
}

func pull(token int, from, to api.Address, amount uint64) api.Letter {
	return api.Letter{Kind: api.LetterPull, Token: token, From: from, To: to, Amount: of(amount)}
}

func numbered(kind, number int) api.Letter { return api.Letter{Kind: kind, Number: number} }
func tokened(kind, token int) api.Letter   { return api.Letter{Kind: kind, Token: token} }
func coding(code []byte) api.Letter        { return api.Letter{Kind: api.LetterCode, Code: code} }
func many(parts ...api.Letter) api.Letter  { return api.Letter{Kind: api.LetterMany, Parts: parts} }

// calling is a LetterCall of a program, along with so much of token 3.
func calling(number int, amount uint64, gas int, args ...api.Wide) api.Letter {
	return api.Letter{Kind: api.LetterCall, Number: number, Token: 3, Amount: of(amount), Gas: gas, Args: args}
}

// row is an entry over the world, which keys it asks there, in their order, and what it answers.
type row struct {
	name    string
	entry   api.Entry
	keys    []string
	receipt api.Receipt
	leaves  []api.Leaf
}

// rows are entries that do all of their row.
func rows(t testing.TB) []row {
	t3, t4, t5 := tokenKey(3), tokenKey(4), tokenKey(5)
	bAnn, bBob, bCyd := balanceKey(3, ann()), balanceKey(3, bob()), balanceKey(3, cyd())
	next := ticketOf(7)
	opened := api.Receipt{Code: 122, Number: 7}
	zero := api.Receipt{}
	left := api.Receipt{First: 5, Leaves: 1}
	keys := func(list ...string) []string { return append([]string{"ne"}, list...) }
	plain := []row{
		{"minted", depositOf(3, of(5), 100), keys(t3, bBob), zero, nil},
		{"minted with more gas", depositOf(3, of(5), full), keys(t3, bBob), zero, nil},
		{"too little gas", depositOf(3, of(5), 99), keys("nt", next), opened, nil},
		{"no gas", depositOf(3, of(5), 0), keys("nt", next), opened, nil},
		{"no such token", depositOf(5, of(5), 100), keys(t5, "nt", next), opened, nil},
		{"a paused token", depositOf(4, of(5), 100), keys(t4, "nt", next), opened, nil},
		{"too much", depositOf(3, less(100), 100), keys(t3, "nt", next), opened, nil},
		{"just not too much", depositOf(3, less(101), 100), keys(t3, bBob), zero, nil},
		{"no letter", api.Entry{Kind: api.EntryCall, Sender: ann(), Body: []byte{99}}, keys(), api.Receipt{Code: 123}, nil},
		{"an empty body", api.Entry{Kind: api.EntryCall, Sender: ann()}, keys(), api.Receipt{Code: 123}, nil},
		{"a long body", api.Entry{Kind: api.EntryCall, Sender: zed(), Body: make([]byte, 4096)}, keys(), api.Receipt{Code: 123}, nil},
		{"move", call(t, ann(), move(3, bob(), 3)), keys(t3, bAnn, bBob), zero, nil},
		{"move all", call(t, ann(), move(3, cyd(), 40)), keys(t3, bAnn, bCyd), zero, nil},
		{"move to oneself", call(t, ann(), move(3, ann(), 3)), keys(t3, bAnn), zero, nil},
		{"move nothing", call(t, ann(), move(3, bob(), 0)), keys(t3, bAnn, bBob), zero, nil},
		{"burn", call(t, ann(), burn(3, bob(), 4)), keys(t3, bAnn, "o"), left, []api.Leaf{{Index: 5, Entry: 7, Token: 3, To: bob(), Amount: of(4)}}},
		{"allow", call(t, ann(), allow(3, bob(), 9)), keys(t3, allowanceKey(3, ann(), bob())), zero, nil},
		{"allow of a paused one", call(t, ann(), allow(4, bob(), 9)), keys(t4, allowanceKey(4, ann(), bob())), zero, nil},
		{"allow nothing", call(t, bob(), allow(3, ann(), 0)), keys(t3, allowanceKey(3, bob(), ann())), zero, nil},
		{"pull", call(t, ann(), pull(3, bob(), cyd(), 7)), keys(t3, allowanceKey(3, bob(), ann()), bBob, bCyd), zero, nil},
		{"retry", call(t, cyd(), numbered(api.LetterRetry, 5)), keys(ticketOf(5), t3, bBob), zero, nil},
		{"cancel", call(t, ann(), numbered(api.LetterCancel, 5)), keys(ticketOf(5), "o"), left, []api.Leaf{{Index: 5, Entry: 7, Token: 3, To: ann(), Amount: of(10)}}},
		{"cancel of no token", call(t, ann(), numbered(api.LetterCancel, 6)), keys(ticketOf(6), "o"), left, []api.Leaf{{Index: 5, Entry: 7, Token: 5, To: ann(), Amount: of(9)}}},
		{"token", call(t, zed(), tokened(api.LetterToken, 5)), keys("a", t5), zero, nil},
		{"pause", call(t, zed(), tokened(api.LetterPause, 3)), keys("a", t3), zero, nil},
		{"resume", call(t, zed(), tokened(api.LetterResume, 4)), keys("a", t4), zero, nil},
		{"code", call(t, ann(), coding(echo(t))), keys("np", programOf(5)), api.Receipt{Number: 5}, nil},
	}
	return append(plain, callRows(t)...)
}

// callRows are those of programs, and of letters of several.
func callRows(t testing.TB) []row {
	t3, bAnn, bBob := tokenKey(3), balanceKey(3, ann()), balanceKey(3, bob())
	home := func(n int) string { return balanceKey(3, homeOf(n)) }
	keys := func(list ...string) []string { return append([]string{"ne"}, list...) }
	busyKeys := []string{slotOf(2, of(1)), bBob, slotOf(2, of(2))}
	several := many(move(3, bob(), 1), calling(1, 0, 50, of(8)), burn(3, bob(), 4), coding(echo(t)), numbered(api.LetterCancel, 5),
		coding(program(t, "time", "done")), calling(6, 2, 50), allow(3, cyd(), 1))
	severalKeys := keys(t3, bAnn, bBob, programOf(1), "o", "np", programOf(5), ticketOf(5), programOf(6), home(6), allowanceKey(3, ann(), cyd()))
	severalLeaves := []api.Leaf{{Index: 5, Entry: 7, Token: 3, To: bob(), Amount: of(4)}, {Index: 6, Entry: 7, Token: 3, To: ann(), Amount: of(10)}}
	return []row{
		{"call", call(t, ann(), calling(1, 0, 50, of(8))), keys(programOf(1)), api.Receipt{Value: of(8), Gas: 3}, nil},
		{"call with an amount", call(t, ann(), calling(1, 2, 3, less(1), of(2))), keys(programOf(1), t3, bAnn, home(1)), api.Receipt{Value: less(1), Gas: 3}, nil},
		{"a busy call", call(t, cyd(), calling(2, 0, busyGas)), keys(append(append([]string{programOf(2)}, busyKeys...), t3, home(2), balanceKey(3, cyd()))...), api.Receipt{Value: of(11), Gas: busyGas}, nil},
		{"a busy call with an amount", call(t, ann(), calling(2, 1, 10000)), keys(append([]string{programOf(2), t3, bAnn, home(2)}, busyKeys...)...), api.Receipt{Value: of(11), Gas: busyGas}, nil},
		{"save", call(t, bob(), calling(4, 0, 500, of(1), of(9))), keys(programOf(4), slotOf(4, of(1))), api.Receipt{Value: of(9), Gas: 407}, nil},
		{"save nought", call(t, bob(), calling(4, 0, 500, less(1))), keys(programOf(4), slotOf(4, less(1))), api.Receipt{Gas: 407}, nil},
		{"several", call(t, ann(), several), severalKeys, api.Receipt{Number: 6, Value: of(1234567), Gas: 6, First: 5, Leaves: 2}, severalLeaves},
		{"several of one", call(t, ann(), many(burn(3, bob(), 40))), keys(t3, bAnn, "o"), api.Receipt{First: 5, Leaves: 1}, []api.Leaf{{Index: 5, Entry: 7, Token: 3, To: bob(), Amount: of(40)}}},
		{"several by the admin", call(t, zed(), many(tokened(api.LetterToken, 5), tokened(api.LetterPause, 5), numbered(api.LetterRetry, 5))), keys("a", tokenKey(5), ticketOf(5), t3, bBob), api.Receipt{}, nil},
	}
}

// laidAlone tells whether a row lays something at a key without looking at what stands there.
func laidAlone(r row, key string) bool {
	if r.name == "pull" { // which looks at what another row lays
		return false
	}
	return slices.Contains([]string{
		ticketOf(7), allowanceKey(3, ann(), bob()), allowanceKey(4, ann(), bob()), allowanceKey(3, bob(), ann()), allowanceKey(3, ann(), cyd()),
		programOf(5), programOf(6), slotOf(2, of(2)), slotOf(4, of(1)), slotOf(4, less(1)),
	}, key)
}

func TestErrorsNumbers(t *testing.T) {
	for e, n := range map[api.Errno]int{
		api.OK: 0, api.ErrArg: 1, api.ErrExecIndex: 120, api.ErrExecEntry: 121, api.ErrExecTicket: 122, api.ErrExecLetter: 123, api.ErrExecAdmin: 124,
		api.ErrExecProgram: 125, api.ErrExecFull: 126,
		api.ErrStoreValue: 71, api.ErrStoreMissing: 74, api.ErrStoreForm: 75,
		api.ErrLedgerNone: 81, api.ErrLedgerThere: 82, api.ErrLedgerPaused: 83, api.ErrLedgerRuns: 84, api.ErrLedgerFunds: 85, api.ErrLedgerAllowed: 86, api.ErrLedgerOver: 87,
		api.ErrTicketNone: 90, api.ErrTicketSender: 91, api.ErrTicketFull: 92,
		api.ErrMachineCode: 100, api.ErrMachineGas: 102, api.ErrMachineStack: 103, api.ErrMachineNumber: 104, api.ErrMachineStop: 105, api.ErrMachineEnd: 106,
		api.ErrOutboxLeaf: 110, api.ErrOutboxFull: 114,
	} {
		if int(e) != n {
			t.Errorf("an error has the number %d, not %d", int(e), n)
		}
	}
	if api.MaxCount != full || api.DepositGas != 100 || api.MaxGas != 10000 || api.MaxParts != 8 || api.MaxTokens != 64 || api.MaxBody != 4096 {
		t.Errorf("a limit is another one")
	}
}

func TestP12_1_Genesis(t *testing.T) {
	for _, admin := range []api.Address{{}, zed(), api.Address(bytes.Repeat([]byte{0xff}, 20))} {
		table := Genesis(admin)
		if has := inTable(table); !maps.Equal(has, map[string]string{"a": string(admin[:])}) {
			t.Errorf("Genesis of %x has %q", admin, has)
		}
		// A table of its own each time.
		table.Put("a", nil)
		table.Put("b", []byte("?"))
		if has := inTable(Genesis(admin)); !maps.Equal(has, map[string]string{"a": string(admin[:])}) {
			t.Errorf("the next Genesis of %x has %q", admin, has)
		}
	}
}

func TestP12_1_Home(t *testing.T) {
	for _, number := range []int{math.MinInt, -1, 0, full + 1, 1<<48 + 1, math.MaxInt} {
		if home, e := Home(number); home != (api.Address{}) || e != api.ErrArg {
			t.Errorf("Home(%d) is %x, %d", number, home, int(e))
		}
	}
	seen := map[api.Address]int{}
	for _, number := range []int{1, 2, 255, 256, 257, 1 << 16, 1 << 32, full - 1, full} {
		home, e := Home(number)
		if home != homeOf(number) || e != api.OK || seen[home] != 0 {
			t.Errorf("Home(%d) is %x, %d", number, home, int(e))
		}
		seen[home] = number
	}
}

func TestR1_Nil(t *testing.T) {
	for _, r := range rows(t) {
		for _, index := range []int{-1, 0, 7, full} {
			wantAnswer(t, "Apply without a state", answerOf(Apply(nil, index, r.entry)), refused(api.ErrArg))
			wantAnswer(t, "Run without a table", answerOf(Run(nil, index, r.entry)), refused(api.ErrArg))
		}
	}
	for _, e := range badEntries(t) { // ahead of all else
		wantAnswer(t, "Apply without a state", answerOf(Apply(nil, 0, e)), refused(api.ErrArg))
		wantAnswer(t, "Run without a table", answerOf(Run(nil, 0, e)), refused(api.ErrArg))
	}
	if c, e := Commit(nil); c != (api.Commit{}) || e != api.ErrArg {
		t.Errorf("Commit without a table: %v, %d", c, int(e))
	}
}

// badEntries are those that may not be, each for one reason.
func badEntries(t testing.TB) []api.Entry {
	turned := func(e api.Entry, turn func(*api.Entry)) api.Entry {
		turn(&e)
		return e
	}
	deposit, sent := depositOf(3, of(5), 100), call(t, ann(), move(3, bob(), 3))
	bad := []api.Entry{{}}
	for _, kind := range []int{-1, 0, 3, 12, math.MaxInt} {
		bad = append(bad, turned(deposit, func(e *api.Entry) { e.Kind = kind }), turned(sent, func(e *api.Entry) { e.Kind = kind }))
	}
	for _, time := range []int{-1, 1<<62 + 1} {
		bad = append(bad, turned(deposit, func(e *api.Entry) { e.Time = time }), turned(sent, func(e *api.Entry) { e.Time = time }))
	}
	return append(bad,
		turned(deposit, func(e *api.Entry) { e.Token = -1 }),
		turned(deposit, func(e *api.Entry) { e.Token = 64 }),
		turned(deposit, func(e *api.Entry) { e.Amount = of(0) }),
		turned(deposit, func(e *api.Entry) { e.Gas = -1 }),
		turned(deposit, func(e *api.Entry) { e.Gas = full + 1 }),
		turned(deposit, func(e *api.Entry) { e.Body = []byte{1} }),
		turned(sent, func(e *api.Entry) { e.Token = 1 }),
		turned(sent, func(e *api.Entry) { e.To = bob() }),
		turned(sent, func(e *api.Entry) { e.Amount = of(1) }),
		turned(sent, func(e *api.Entry) { e.Gas = 1 }),
		turned(sent, func(e *api.Entry) { e.Body = make([]byte, 4097) }))
}

// An entry that may not be is refused ahead of all that is asked, whatever the index is, and whatever stands there.
func TestP12_2_Entry(t *testing.T) {
	for i, e := range badEntries(t) {
		for _, index := range []int{-1, 0, 6, 7, 8, full} {
			for _, count := range []string{inEight(7), "", "?", inEight(full)} {
				has := world(t)
				has["ne"] = count
				b := over(t, has, map[string]api.Errno{"ne": api.ErrStoreMissing})
				b.wantRefused(t, fmt.Sprint("bad entry ", i), index, e, api.ErrExecEntry)
				if len(b.source.asked) != 0 {
					t.Errorf("an entry that may not be asked %q", b.source.asked)
				}
			}
		}
	}
}

func TestP12_2_Index(t *testing.T) {
	for _, r := range rows(t) {
		for _, count := range []int{0, 1, 7, 1 << 33, full - 1, full} {
			has := world(t)
			has["ne"] = inEight(count)
			if count == 0 {
				has["ne"] = ""
			}
			for _, index := range []int{math.MinInt, -1, 0, 1, count - 1, count + 1, full - 1, full, full + 1, math.MaxInt} {
				if index == count {
					continue
				}
				b := over(t, has, nil)
				b.wantRefused(t, fmt.Sprint(r.name, " with ", index, " at ", count), index, r.entry, api.ErrExecIndex)
				if !slices.Equal(b.source.asked, []string{"ne"}) {
					t.Errorf("%s with another index asked %q", r.name, b.source.asked)
				}
			}
		}
	}
}

// The last entry that may be has the index MaxCount - 1.
func TestP12_2_Full(t *testing.T) {
	for _, r := range rows(t) {
		has := world(t)
		has["ne"] = inEight(full - 1)
		b := over(t, has, nil)
		got := b.wantApply(t, r.name, full-1, r.entry)
		if got.receipt != r.receipt || got.code != api.OK || changesOf(b.state)["ne"][1] != inEight(full) {
			t.Errorf("%s as the last entry: %v", r.name, got)
		}
		for _, l := range got.leaves {
			if l.Entry != full-1 {
				t.Errorf("%s as the last entry: a leaf of %d", r.name, l.Entry)
			}
		}
		b.wantRefused(t, r.name, full, r.entry, api.ErrExecFull)
		b.wantRefused(t, r.name, full-1, r.entry, api.ErrExecIndex)
		has["ne"] = inEight(full)
		b = over(t, has, nil)
		b.wantRefused(t, r.name, full, r.entry, api.ErrExecFull)
		if !slices.Equal(b.source.asked, []string{"ne"}) {
			t.Errorf("%s behind the last entry asked %q", r.name, b.source.asked)
		}
	}
}

// Each row asks its keys, in its order, once each, and answers what it tells.
func TestP12_2_Rows(t *testing.T) {
	for _, r := range rows(t) {
		b := over(t, world(t), nil)
		wantAnswer(t, r.name, b.wantApply(t, r.name, 7, r.entry), answer{r.receipt, r.leaves, api.OK})
		if !slices.Equal(b.source.asked, r.keys) {
			t.Errorf("%s asked %q, not %q", r.name, b.source.asked, r.keys)
		}
		if got := changesOf(b.state)["ne"]; got != [2]string{inEight(7), inEight(8)} {
			t.Errorf("%s: the count is %q", r.name, got)
		}
		// The same entry again is the entry with the number behind it alone.
		b.wantRefused(t, r.name+" again", 7, r.entry, api.ErrExecIndex)
		b.wantApply(t, r.name+" as the next one", 8, r.entry)
	}
}

// Keys that the state was asked ahead of it are not asked of its source again, and what was laid counts.
func TestP12_2_OverWhatWasLaid(t *testing.T) {
	for _, r := range rows(t) {
		b := over(t, map[string]string{"ne": "?", tokenKey(3): "?"}, map[string]api.Errno{})
		for key, value := range world(t) {
			b.state.Put(key, []byte(value))
			b.said.put(key, value)
		}
		b.source.asked, b.said.asked = nil, nil
		wantAnswer(t, r.name, b.wantApply(t, r.name, 7, r.entry), answer{r.receipt, r.leaves, api.OK})
		for _, key := range b.source.asked {
			if !slices.Contains(r.keys, key) || world(t)[key] != "" {
				t.Errorf("%s asked %q", r.name, key)
			}
		}
	}
}

// likely are numbers that a source's own error may have, those of the layers among them.
func likely() []api.Errno {
	return []api.Errno{api.ErrStoreMissing, api.ErrStoreForm, api.ErrArg, api.ErrLedgerNone, api.ErrLedgerPaused, api.ErrLedgerOver, api.ErrLedgerFunds,
		api.ErrTicketNone, api.ErrMachineGas, api.ErrOutboxFull, api.ErrExecTicket, api.ErrExecLetter, api.ErrExecAdmin, api.ErrExecProgram, -1, 9999}
}

// A source that refuses at whatever step refuses the entry, with whatever error: nothing is laid, and nothing more is asked. Once it tells, the entry is done.
func TestP12_2_TheSourceRefuses(t *testing.T) {
	for _, r := range rows(t) {
		for i, key := range r.keys {
			for _, e := range likely() {
				refuses := map[string]api.Errno{key: e}
				b := over(t, world(t), refuses)
				b.state.Put("elsewhere", []byte("laid"))
				b.said.put("elsewhere", "laid")
				for range 2 { // a refusal is not kept
					b.wantRefused(t, fmt.Sprintf("%s, refused at %q", r.name, key), 7, r.entry, e)
				}
				if wanted := append(append([]string{"elsewhere"}, r.keys[:i+1]...), key); !slices.Equal(b.source.asked, wanted) {
					t.Errorf("%s, refused at %q, asked %q", r.name, key, b.source.asked)
				}
				if touched := b.state.Touched(); len(touched) != i+1 {
					t.Errorf("%s, refused at %q, touched %q", r.name, key, touched)
				}
				delete(refuses, key)
				wantAnswer(t, r.name, b.wantApply(t, r.name+", told at last", 7, r.entry), answer{r.receipt, r.leaves, api.OK})
			}
		}
	}
}

// Whatever a layer would do with the state's error: nothing more is asked behind it.
func TestP12_2_NothingMoreIsAsked(t *testing.T) {
	source := &scripted{has: world(t), refuses: map[string]api.Errno{"nt": api.ErrLedgerNone}}
	under := &below{state: stateOver(t, source)}
	for _, key := range []string{"ne", "nt", "np", "nt", "ne"} {
		under.Find(key)
	}
	if !slices.Equal(source.asked, []string{"ne", "nt"}) || under.fault != api.ErrLedgerNone {
		t.Errorf("asked %q, and the fault is %d", source.asked, int(under.fault))
	}
}

// A value that is not of its form, or is too long, refuses the entry at whatever step it is asked; where something is laid alone, a form is not looked at.
func TestP12_2_NotOfTheForm(t *testing.T) {
	for _, r := range rows(t) {
		for i, key := range r.keys {
			has := world(t)
			has[key] = zeros(4097)
			b := over(t, has, nil)
			b.wantRefused(t, fmt.Sprintf("%s, too long at %q", r.name, key), 7, r.entry, api.ErrStoreValue)
			has[key] = "?"
			b = over(t, has, nil)
			what := fmt.Sprintf("%s, no form at %q", r.name, key)
			if laidAlone(r, key) {
				wantAnswer(t, what, b.wantApply(t, what, 7, r.entry), answer{r.receipt, r.leaves, api.OK})
				continue
			}
			b.wantRefused(t, what, 7, r.entry, api.ErrStoreForm)
			if !slices.Equal(b.source.asked, r.keys[:i+1]) {
				t.Errorf("%s: asked %q", what, b.source.asked)
			}
		}
	}
}

// Values near the forms of the layer's own keys.
func TestP12_2_Forms(t *testing.T) {
	numbers := []string{zeros(8), zeros(7), zeros(9), "\x01", zeros(6) + "\x01", inEight(1) + "\x00", inEight(full + 1), "\x80" + zeros(6) + "\x01", strings.Repeat("\xff", 8), "\x00\x00\x02" + zeros(5), zeros(8) + inEight(7)}
	code := call(t, ann(), coding(echo(t)))
	for _, bad := range numbers {
		has := world(t)
		has["ne"] = bad
		for _, r := range rows(t) {
			for _, index := range []int{0, 1, 7, full} {
				over(t, has, nil).wantRefused(t, fmt.Sprintf("%s at the count %x", r.name, bad), index, r.entry, api.ErrStoreForm)
			}
		}
		if c, e := Commit(tableWith(t, has)); c != (api.Commit{}) || e != api.ErrStoreForm {
			t.Errorf("Commit at the count %x: %v, %d", bad, c, int(e))
		}
		has = world(t)
		has["np"] = bad
		over(t, has, nil).wantRefused(t, fmt.Sprintf("code behind %x", bad), 7, code, api.ErrStoreForm)
	}
	for _, bad := range []string{"", zeros(19), zeros(21), zeros(40), "?"} {
		for _, r := range rows(t) {
			if r.name == "token" || r.name == "pause" || r.name == "resume" {
				has := world(t)
				has["a"] = bad
				over(t, has, nil).wantRefused(t, fmt.Sprintf("%s with the admin %x", r.name, bad), 7, r.entry, api.ErrStoreForm)
			}
		}
	}
	for _, bad := range []string{"\x1c", "\x02", "\x0e\x00\x01", "\x01\x02", strings.Repeat("\x03", 1025), strings.Repeat("\x03", 4096), zeros(4096)} {
		has := world(t)
		has[programOf(1)] = bad
		for _, amount := range []uint64{0, 2, 1 << 60} {
			b := over(t, has, nil)
			b.wantRefused(t, fmt.Sprintf("call of the code %.9x", bad), 7, call(t, ann(), calling(1, amount, 50)), api.ErrStoreForm)
			if !slices.Equal(b.source.asked, []string{"ne", programOf(1)}) {
				t.Errorf("call of a code that is none asked %q", b.source.asked)
			}
		}
	}
	for _, bad := range []string{zeros(32), zeros(31), zeros(31) + "\x01\x00", "\x01", value32(1)[1:], "\x00" + value32(1), zeros(64)} {
		has := world(t)
		has[slotOf(2, of(1))] = bad
		over(t, has, nil).wantRefused(t, fmt.Sprintf("a slot with %x", bad), 7, call(t, cyd(), calling(2, 0, 10000)), api.ErrStoreForm)
	}
}

// Where a state tells an error, or a value is not of its form, within a part of several, the entry is refused as a whole: it has no receipt, and no Part.
func TestP12_2_RefusedWithinParts(t *testing.T) {
	for _, key := range []string{balanceKey(3, bob()), programOf(1), "o", "np"} {
		parts := many(move(3, ann(), 1), move(3, bob(), 1), calling(1, 0, 50), burn(3, bob(), 1), coding(echo(t)))
		has := world(t)
		has[key] = "?"
		over(t, has, nil).wantRefused(t, "a part, no form at "+key, 7, call(t, ann(), parts), api.ErrStoreForm)
		over(t, world(t), map[string]api.Errno{key: api.ErrLedgerFunds}).wantRefused(t, "a part, refused at "+key, 7, call(t, ann(), parts), api.ErrLedgerFunds)
	}
}

func TestP12_3_Deposits(t *testing.T) {
	for gas := range map[int]bool{0: true, 1: true, 99: true, 100: true, 101: true, 10001: true, full: true} {
		for _, token := range []int{0, 3, 4, 5, 63} {
			for _, amount := range []api.Wide{of(1), of(5), less(1), less(100), less(101), less(102)} {
				b := over(t, world(t), nil)
				what := fmt.Sprintf("a deposit of %v of %d with gas %d", amount, token, gas)
				got := b.wantApply(t, what, 7, depositOf(token, amount, gas))
				minted := token == 3 && gas >= 100 && amount != less(1) && amount != less(100)
				if wanted := (answer{receipt: api.Receipt{Code: api.ErrExecTicket, Number: 7}}); !minted {
					wantAnswer(t, what, got, wanted)
					opened, e := ticket.Find(b.state, 7)
					if opened != (api.Ticket{Number: 7, Entry: 7, Sender: ann(), Token: token, To: bob(), Amount: amount}) || e != api.OK {
						t.Errorf("%s: the ticket %v, %d", what, opened, int(e))
					}
					continue
				}
				wantAnswer(t, what, got, answer{})
				x, _ := ledger.Token(b.state, 3)
				has, _ := ledger.Balance(b.state, 3, bob())
				if plus(bigOf(amount), big.NewInt(100)).Cmp(bigOf(x.Supply)) != 0 || plus(bigOf(amount), big.NewInt(10)).Cmp(bigOf(has)) != 0 {
					t.Errorf("%s: the supply %v, the balance %v", what, x, has)
				}
			}
		}
	}
}

// A ticket that can not be opened refuses the entry: the deposit is not lost, and not executed.
func TestP12_3_NoTicketIsLeft(t *testing.T) {
	for _, r := range rows(t) {
		has := world(t)
		has["nt"] = inEight(full)
		b := over(t, has, nil)
		if r.receipt.Code != api.ErrExecTicket {
			wantAnswer(t, r.name, b.wantApply(t, r.name, 7, r.entry), answer{r.receipt, r.leaves, api.OK})
			continue
		}
		b.wantRefused(t, r.name, 7, r.entry, api.ErrTicketFull)
		if !slices.Equal(b.source.asked, r.keys[:len(r.keys)-1]) {
			t.Errorf("%s: asked %q", r.name, b.source.asked)
		}
		has["nt"] = inEight(full - 1)
		b = over(t, has, nil)
		wantAnswer(t, r.name, b.wantApply(t, r.name, 7, r.entry), answer{receipt: api.Receipt{Code: api.ErrExecTicket, Number: full}})
	}
	// The balance of whom it is for would be too great, though the supply is not: no ledger has that.
	has := world(t)
	has[balanceKey(3, bob())] = greatest(5)
	over(t, has, nil).wantRefused(t, "a balance that no ledger has", 7, depositOf(3, of(5), 100), api.ErrStoreForm)
}

// example is a line of the chapter's table.
type example struct {
	entry   api.Entry
	receipt api.Receipt
	leaves  []api.Leaf
}

func examples(t testing.TB) []example {
	z, s, r := zed(), ann(), bob()
	toR := func(amount uint64, gas int) api.Entry {
		return api.Entry{Kind: api.EntryDeposit, Sender: s, Token: 3, To: r, Amount: of(amount), Gas: gas}
	}
	sent := func(by api.Address, l api.Letter) api.Entry { return call(t, by, l) }
	return []example{
		{toR(5, 100), api.Receipt{Code: 122, Number: 1}, nil},
		{sent(s, tokened(7, 3)), api.Receipt{Code: 124}, nil},
		{sent(z, tokened(7, 3)), api.Receipt{}, nil},
		{toR(7, 100), api.Receipt{}, nil},
		{toR(1, 99), api.Receipt{Code: 122, Number: 2}, nil},
		{sent(r, burn(3, s, 4)), api.Receipt{First: 0, Leaves: 1}, []api.Leaf{{Index: 0, Entry: 5, Token: 3, To: s, Amount: of(4)}}},
		{sent(r, numbered(6, 1)), api.Receipt{Code: 91}, nil},
		{sent(s, numbered(6, 1)), api.Receipt{First: 1, Leaves: 1}, []api.Leaf{{Index: 1, Entry: 7, Token: 3, To: s, Amount: of(5)}}},
		{sent(r, numbered(5, 2)), api.Receipt{}, nil},
		{api.Entry{Kind: api.EntryCall, Sender: r, Body: []byte{99}}, api.Receipt{Code: 123}, nil},
		{sent(r, coding([]byte{16, 0, 1})), api.Receipt{Number: 1}, nil},
		{sent(r, calling(1, 1, 50, of(8))), api.Receipt{Value: of(8), Gas: 3}, nil},
		{sent(r, many(move(3, s, 2), move(3, s, 2))), api.Receipt{Code: 85, Part: 2}, nil},
	}
}

// wantHas: of token 3 somebody has so much.
func wantHas(t testing.TB, table *store.Table, who api.Address, wanted uint64) {
	t.Helper()
	if got, e := ledger.Balance(stateOver(t, table), 3, who); got != of(wanted) || e != api.OK {
		t.Errorf("%x has %v, %d, not %d", who, got, int(e), wanted)
	}
}

func TestExamples(t *testing.T) {
	table := Genesis(zed())
	one := over(t, inTable(table), nil) // the same over one state, by the words too
	balances := map[int]uint64{3: 7, 5: 3, 8: 4, 11: 3, 12: 3}
	for i, x := range examples(t) {
		wantAnswer(t, fmt.Sprint("entry ", i), answerOf(Run(table, i, x.entry)), answer{x.receipt, x.leaves, api.OK})
		wantAnswer(t, fmt.Sprint("entry ", i, " over a state"), one.wantApply(t, "an example", i, x.entry), answer{x.receipt, x.leaves, api.OK})
		if wanted, told := balances[i]; told {
			wantHas(t, table, bob(), wanted)
		}
	}
	wantHas(t, table, homeOf(1), 1)
	if token, e := ledger.Token(stateOver(t, table), 3); token != (api.Token{There: true, Supply: of(4)}) || e != api.OK {
		t.Errorf("the token is %v, %d", token, int(e))
	}
	was := inTable(table)
	wantAnswer(t, "12 again", answerOf(Run(table, 12, examples(t)[12].entry)), refused(api.ErrExecIndex))
	if !maps.Equal(was, inTable(table)) {
		t.Errorf("12 again has turned the table")
	}
	if c, e := Commit(table); c.Count != 13 || c.Leaves != 2 || e != api.OK {
		t.Errorf("the commit is %v, %d", c, int(e))
	}
}

// A table becomes what the state over it becomes, and the answer is the state's.
func TestP12_6_Run(t *testing.T) {
	for _, r := range rows(t) {
		table := tableWith(t, world(t))
		b := over(t, world(t), nil)
		wantAnswer(t, r.name, answerOf(Run(table, 7, r.entry)), b.wantApply(t, r.name, 7, r.entry))
		for _, c := range b.state.Changes() {
			b.source.has[c.Key] = string(c.New)
			if len(c.New) == 0 {
				delete(b.source.has, c.Key)
			}
		}
		if got := inTable(table); !maps.Equal(got, b.source.has) {
			t.Errorf("%s: the table has %q, not %q", r.name, got, b.source.has)
		}
		if fresh := tableWith(t, inTable(table)); fresh.Root() != table.Root() {
			t.Errorf("%s: the table has another root", r.name)
		}
	}
}

// With an error the table is as it was.
func TestP12_6_RunRefused(t *testing.T) {
	want := func(what string, has map[string]string, index int, e api.Entry, wanted api.Errno) {
		t.Helper()
		table := tableWith(t, has)
		was, root := inTable(table), table.Root()
		wantAnswer(t, what, answerOf(Run(table, index, e)), refused(wanted))
		if !maps.Equal(was, inTable(table)) || table.Root() != root {
			t.Errorf("%s: the table was turned", what)
		}
	}
	for _, r := range rows(t) {
		want(r.name+" too early", world(t), 8, r.entry, api.ErrExecIndex)
		want(r.name+" too late", world(t), 6, r.entry, api.ErrExecIndex)
		has := world(t)
		has["ne"] = inEight(full)
		want(r.name+" behind all", has, full, r.entry, api.ErrExecFull)
		for _, key := range r.keys {
			if laidAlone(r, key) {
				continue
			}
			has := world(t)
			has[key] = "?"
			want(r.name+", no form at "+key, has, 7, r.entry, api.ErrStoreForm)
		}
	}
	for _, e := range badEntries(t) {
		want("an entry that may not be", world(t), 7, e, api.ErrExecEntry)
	}
	has := world(t)
	has["nt"] = inEight(full)
	want("no ticket is left", has, 7, depositOf(5, of(1), 100), api.ErrTicketFull)
}

func wantCommit(t testing.TB, what string, has map[string]string) api.Commit {
	t.Helper()
	table := tableWith(t, has)
	wanted, code := commitSaid(has)
	if code == api.OK {
		wanted.State = tableWith(t, has).Root()
	}
	for range 2 {
		if got, e := Commit(table); got != wanted || e != code {
			t.Errorf("%s: %v, %d, not %v, %d", what, got, int(e), wanted, int(code))
		}
	}
	if table.Root() != tableWith(t, has).Root() {
		t.Errorf("%s: the table was turned", what)
	}
	return wanted
}

func TestP12_7_Commit(t *testing.T) {
	if got := wantCommit(t, "of no keys", nil); got != (api.Commit{Outbox: api.Digest([]byte(sha("")))}) {
		t.Errorf("the commit of no keys is %v", got)
	}
	if got := wantCommit(t, "of Genesis", inTable(Genesis(zed()))); got.Count != 0 || got.Leaves != 0 || got.State == (api.Digest{}) {
		t.Errorf("the commit of Genesis is %v", got)
	}
	if got := wantCommit(t, "of the world", world(t)); got.Count != 7 || got.Leaves != 5 {
		t.Errorf("the commit of the world is %v", got)
	}
	for _, count := range []string{"", inEight(1), inEight(full - 1), inEight(full), zeros(8), inEight(full + 1), "?", strings.Repeat("\xff", 8)} {
		for _, box := range []string{"", inEight(1) + ones(1), inEight(6) + ones(2), inEight(7) + ones(3), inEight(full) + ones(1), inEight(full-1) + ones(40), inEight(full+1) + ones(2), inEight(5) + ones(3), inEight(5) + ones(2) + "?", zeros(8), inEight(1), "?"} {
			has := world(t)
			has["ne"], has["o"] = count, box
			wantCommit(t, fmt.Sprintf("the count %x, the outbox %.10x", count, box), has)
		}
	}
}

// A commit tells the state, the outbox and the leaves behind the entries that were run; another value anywhere is another State.
func TestP12_7_CommitBehindEntries(t *testing.T) {
	table, book := Genesis(zed()), outbox.New()
	seen := map[api.Digest]bool{}
	for i, x := range examples(t) {
		_, leaves, _ := Run(table, i, x.entry)
		for _, l := range leaves {
			wantErr(t, "Put", book.Put(l), api.OK)
		}
		got := wantCommit(t, fmt.Sprint("behind ", i), inTable(table))
		root, _ := book.Root(book.Len())
		if got.Count != i+1 || got.Leaves != book.Len() || got.Outbox != root || seen[got.State] {
			t.Errorf("behind %d entries the commit is %v", i+1, got)
		}
		seen[got.State] = true
	}
}

// Apply makes no mark and takes none away; Back takes back all that it laid.
func TestP12_2_MarksAndBack(t *testing.T) {
	for _, r := range rows(t) {
		b := over(t, world(t), nil)
		for i := range 3 {
			if m := b.state.Mark(); m != i {
				t.Fatalf("%s: the mark %d has the number %d", r.name, i, m)
			}
			was := changesOf(b.state)
			wantErr(t, r.name, answerOf(Apply(b.state, 7+i, r.entry)).code, api.OK)
			wantErr(t, "Back", b.state.Back(i), api.OK)
			if behind := changesOf(b.state); !maps.Equal(was, behind) {
				t.Errorf("%s: behind Back there are %q, not %q", r.name, behind, was)
			}
			wantErr(t, r.name, answerOf(Apply(b.state, 7+i, r.entry)).code, api.OK)
		}
		wantErr(t, "no mark of Apply's", b.state.Back(3), api.ErrStoreMark)
		wantErr(t, "Back", b.state.Back(1), api.OK)
		if got := changesOf(b.state)["ne"][1]; got != inEight(8) {
			t.Errorf("%s: behind Back the count is %q", r.name, got)
		}
		wantErr(t, "Back", b.state.Back(0), api.OK)
		if got := changesOf(b.state); len(got) != 0 {
			t.Errorf("%s: behind Back there are %q", r.name, got)
		}
	}
}

// A refused Apply leaves the marks alone, too.
func TestP12_2_MarksAndRefusals(t *testing.T) {
	for _, r := range rows(t) {
		for _, key := range r.keys {
			refuses := map[string]api.Errno{key: api.ErrStoreMissing}
			b := over(t, world(t), refuses)
			if m := b.state.Mark(); m != 0 {
				t.Fatalf("the first mark has the number %d", m)
			}
			b.state.Put("elsewhere", []byte("laid"))
			b.said.put("elsewhere", "laid")
			b.wantRefused(t, r.name, 7, r.entry, api.ErrStoreMissing)
			b.wantRefused(t, r.name, 7, api.Entry{}, api.ErrExecEntry)
			if m := b.state.Mark(); m != 1 {
				t.Errorf("%s: a refused one has made marks: the next has the number %d", r.name, m)
			}
			if got := changesOf(b.state); len(got) != 1 {
				t.Errorf("%s: a refused one has laid or taken back something: %q", r.name, got)
			}
		}
	}
}

// spread is bytes with more room behind them.
func spread(b []byte) []byte {
	room := append(make([]byte, 0, len(b)+64), b...)
	copy(room[len(b):cap(room)], bytes.Repeat([]byte{0xaa}, 64))
	return room
}

// What is handed in is neither written into, nor its room, nor kept; what is answered is the caller's.
func TestR4_HandedInAndOut(t *testing.T) {
	for _, r := range rows(t) {
		table := tableWith(t, world(t))
		s := stateOver(t, table)
		handed := r.entry
		handed.Body = spread(r.entry.Body)
		room := bytes.Clone(handed.Body[:cap(handed.Body)])
		got := answerOf(Apply(s, 7, handed))
		if !bytes.Equal(room, handed.Body[:cap(handed.Body)]) {
			t.Errorf("%s: the body was written into", r.name)
		}
		was := changesOf(s)
		for i := range room {
			handed.Body[:cap(handed.Body)][i] ^= 0x5a
		}
		for i := range got.leaves[:cap(got.leaves)] {
			got.leaves[:cap(got.leaves)][i] = api.Leaf{Index: -1}
		}
		if !maps.Equal(was, changesOf(s)) {
			t.Errorf("%s: what was handed in or out is kept", r.name)
		}
		next := answerOf(Apply(s, 8, call(t, ann(), burn(3, bob(), 0))))
		if next.receipt.Code == api.OK || len(next.leaves) != 0 {
			t.Errorf("%s: the next one: %v", r.name, next)
		}
		if !maps.Equal(inTable(table), world(t)) {
			t.Errorf("%s: the state's source was written into", r.name)
		}
	}
}

// scribbler is a source that writes into an entry's body when it is asked.
type scribbler struct {
	scripted
	body []byte
}

func (s *scribbler) Find(key string) ([]byte, api.Errno) {
	for i := range s.body {
		s.body[i] = 99
	}
	return s.scripted.Find(key)
}

// What is answered hangs on what was handed in, also if that is turned meanwhile.
func TestR5_TheBodyIsReadFirst(t *testing.T) {
	for _, r := range rows(t) {
		handed := r.entry
		handed.Body = bytes.Clone(r.entry.Body)
		source := &scribbler{scripted{has: world(t)}, handed.Body}
		wantAnswer(t, r.name, answerOf(Apply(stateOver(t, source), 7, handed)), answer{r.receipt, r.leaves, api.OK})
	}
}

// Two states over one table have nothing to do with each other.
func TestR5_TwoStates(t *testing.T) {
	table := tableWith(t, world(t))
	for _, r := range rows(t) {
		one, two := stateOver(t, table), stateOver(t, table)
		for _, other := range rows(t) {
			Apply(two, 7, other.entry)
		}
		wantAnswer(t, r.name, answerOf(Apply(one, 7, r.entry)), answer{r.receipt, r.leaves, api.OK})
		wantAnswer(t, r.name, answerOf(Apply(stateOver(t, table), 7, r.entry)), answer{r.receipt, r.leaves, api.OK})
	}
	if !maps.Equal(inTable(table), world(t)) {
		t.Errorf("the table was turned")
	}
}
