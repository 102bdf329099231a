package ticket

import (
	"bytes"
	"fmt"
	"maps"
	"math"
	"math/big"
	"slices"
	"strings"
	"testing"

	"causeway/api"
	"causeway/ledger"
	"causeway/store"
)

func ann() api.Address { return api.Address{1} }
func bob() api.Address { return api.Address{19: 2} }

const (
	all  = 1<<64 - 1
	full = 1 << 40
)

func of(n uint64) api.Wide { return api.Wide{n} }

// below is 2^256 less n.
func below(n uint64) api.Wide { return api.Wide{-n, all, all, all} }

// zeros are bytes of nought.
func zeros(n int) string { return string(make([]byte, n)) }

// eightBytes is a number as it stands in a store.
func eightBytes(n uint64) string { return inBytes(new(big.Int).SetUint64(n), 8) }

func value32(a api.Wide) string          { return inBytes(bigOf(a), 32) }
func runningWith(supply api.Wide) string { return "\x01" + value32(supply) }
func pausedWith(supply api.Wide) string  { return "\x03" + value32(supply) }

// scripted is a source that has some values, refuses at some keys, and writes down what it is asked.
type scripted struct {
	has     map[string]string
	refuses map[string]api.Errno
	asked   []string
}

func (s *scripted) Find(key string) ([]byte, api.Errno) {
	s.asked = append(s.asked, key)
	if e := s.refuses[key]; e != api.OK {
		return []byte(textOf(sample())), e
	}
	return []byte(s.has[key]), api.OK
}

func stateOver(t testing.TB, source store.Source) *store.State {
	t.Helper()
	s, e := store.Over(source)
	if e != api.OK {
		t.Fatalf("Over: %d", e)
	}
	return s
}

// both is a state and what it is by the words.
type both struct {
	source *scripted
	state  *store.State
	said   *shelf
}

func over(t testing.TB, has map[string]string, refuses map[string]api.Errno) both {
	t.Helper()
	source := &scripted{has: has, refuses: refuses}
	return both{source, stateOver(t, source), newShelf(has, refuses)}
}

func changesOf(s *store.State) map[string][2]string {
	told := map[string][2]string{}
	for _, c := range s.Changes() {
		told[c.Key] = [2]string{string(c.Old), string(c.New)}
	}
	return told
}

func wantErr(t testing.TB, what string, got, wanted api.Errno) {
	t.Helper()
	if got != wanted {
		t.Errorf("%s: %d, not %d", what, int(got), int(wanted))
	}
}

func wantAnswer(t testing.TB, what string, got, wanted answer) {
	t.Helper()
	if got != wanted {
		t.Errorf("%s: %v, not %v", what, got, wanted)
	}
}

// wantCall makes a call in a state and by the words: they must answer the same, ask the same, and leave the same.
func (b both) wantCall(t testing.TB, what string, c call) answer {
	t.Helper()
	got, wanted := c.do(b.state), c.say(b.said)
	if got != wanted {
		t.Errorf("%s: %v in %.300q: %v, not %v", what, c, b.source.has, got, wanted)
	}
	if !slices.Equal(b.source.asked, b.said.asked) {
		t.Errorf("%s: %v asked %q, not %q", what, c, b.source.asked, b.said.asked)
	}
	if got, wanted := b.state.Touched(), b.said.touched(); !slices.Equal(got, wanted) {
		t.Errorf("%s: %v touched %q, not %q", what, c, got, wanted)
	}
	if got, wanted := changesOf(b.state), b.said.changes(); !maps.Equal(got, wanted) {
		t.Errorf("%s: %v changes %q, not %q", what, c, got, wanted)
	}
	return got
}

// wantRefused makes a call that is to be refused: nothing else is told, and nothing is laid.
func (b both) wantRefused(t testing.TB, what string, c call, wanted api.Errno) {
	t.Helper()
	ahead := changesOf(b.state)
	wantAnswer(t, what+", "+c.name, b.wantCall(t, what, c), answer{code: wanted})
	if behind := changesOf(b.state); !maps.Equal(ahead, behind) {
		t.Errorf("%s: %v was refused, and laid something: %q, not %q", what, c, behind, ahead)
	}
}

// sample is a ticket as Open takes it.
func sample() api.Ticket {
	return api.Ticket{Entry: 7, Sender: ann(), Token: 9, To: bob(), Amount: of(10)}
}

// numbered is a ticket as it is told.
func numbered(t api.Ticket, number int) api.Ticket {
	t.Number = number
	return t
}

// world is a store in which six tickets were made, of which the fifth is open, and whose token is there.
func world() map[string]string {
	return map[string]string{"nt": eightBytes(6), keyOf(5): textOf(sample()), tokenKey(9): runningWith(of(30)), balanceKey(9, bob()): value32(of(20))}
}

// callOf is a call that does all of its row in that store.
func callOf(name string) call {
	return call{name: name, ticket: sample(), number: 5, by: ann()}
}

// keysOf are the keys that its row names there, in the order in which it asks them.
func keysOf(name string) []string {
	switch name {
	case "Open":
		return []string{"nt", keyOf(7)}
	case "Made":
		return []string{"nt"}
	case "Retry":
		return []string{keyOf(5), tokenKey(9), balanceKey(9, bob())}
	}
	return []string{keyOf(5)}
}

// rightAnswer is what that call answers.
func rightAnswer(name string) answer {
	return map[string]answer{"Open": {number: 7}, "Find": {ticket: numbered(sample(), 5)}, "Made": {number: 6}, "Cancel": {ticket: numbered(sample(), 5)}}[name]
}

// takesNumber are the calls that are handed a ticket's number.
func takesNumber() []string { return []string{"Find", "Retry", "Cancel"} }

func TestErrorsNumbers(t *testing.T) {
	for e, n := range map[api.Errno]int{
		api.OK: 0, api.ErrArg: 1, api.ErrStoreForm: 75, api.ErrTicketNone: 90, api.ErrTicketSender: 91, api.ErrTicketFull: 92, api.ErrTicketField: 93,
		api.ErrStoreValue: 71, api.ErrStoreMissing: 74, api.ErrLedgerNone: 81, api.ErrLedgerPaused: 83, api.ErrLedgerOver: 87,
	} {
		if int(e) != n {
			t.Errorf("an error has the number %d, not %d", int(e), n)
		}
	}
	if api.MaxCount != full || api.MaxTokens != 64 {
		t.Errorf("MaxCount is %d, MaxTokens is %d", api.MaxCount, api.MaxTokens)
	}
}

func TestR1_Nil(t *testing.T) {
	for _, name := range names() {
		c := callOf(name)
		wantAnswer(t, name+" of a nil state", c.do(nil), answer{code: api.ErrArg})
		for _, number := range []int{-1, 0, 1, full, full + 1} { // ahead of all else
			c.number, c.ticket = number, api.Ticket{Number: number}
			wantAnswer(t, name+" of a nil state", c.do(nil), answer{code: api.ErrArg})
		}
	}
}

func TestExamples(t *testing.T) {
	s := stateOver(t, store.NewTable())
	z, y := api.Address{}, api.Address(bytes.Repeat([]byte{1}, 20))
	wantAnswer(t, "Made", call{name: "Made"}.do(s), answer{})
	for _, c := range []call{{name: "Find", number: 1}, {name: "Find"}, {name: "Retry", number: full + 1}} {
		wantAnswer(t, c.name, c.do(s), answer{code: api.ErrTicketNone})
	}
	x := api.Ticket{Entry: 7, Sender: y, Token: 3, To: z, Amount: of(256)}
	wantAnswer(t, "Open", call{name: "Open", ticket: x}.do(s), answer{number: 1})
	value := zeros(7) + "\x07" + strings.Repeat("\x01", 20) + "\x03" + zeros(20) + zeros(30) + "\x01\x00"
	if got, _ := s.Get("\x6b" + zeros(7) + "\x01"); string(got) != value {
		t.Errorf("at the ticket's key stands %x", got)
	}
	wantAnswer(t, "Open again", call{name: "Open", ticket: x}.do(s), answer{number: 2})
	if got, _ := s.Get("nt"); string(got) != zeros(7)+"\x02" {
		t.Errorf("at nt stands %x", got)
	}
	for _, bad := range []api.Ticket{{Number: 1, Token: 3, Amount: of(1)}, {Entry: full, Amount: of(1)}, {Token: 64, Amount: of(1)}, {Token: 3}} {
		wantAnswer(t, "Open", call{name: "Open", ticket: bad}.do(s), answer{code: api.ErrTicketField})
	}
	one, two := numbered(x, 1), numbered(x, 2)
	wantAnswer(t, "Find(1)", call{name: "Find", number: 1}.do(s), answer{ticket: one})
	wantErr(t, "Retry(1)", Retry(s, 1), api.ErrLedgerNone)
	wantAnswer(t, "Find(1)", call{name: "Find", number: 1}.do(s), answer{ticket: one})
	wantErr(t, "Register", ledger.Register(s, 3), api.OK)
	wantErr(t, "Retry(1)", Retry(s, 1), api.OK)
	wantAnswer(t, "Find(1)", call{name: "Find", number: 1}.do(s), answer{code: api.ErrTicketNone})
	wantErr(t, "Retry(1)", Retry(s, 1), api.ErrTicketNone)
	if has, e := ledger.Balance(s, 3, z); has != of(256) || e != api.OK {
		t.Errorf("Balance: %v %d", has, e)
	}
	wantAnswer(t, "Cancel(2, z)", call{name: "Cancel", number: 2, by: z}.do(s), answer{code: api.ErrTicketSender})
	wantAnswer(t, "Cancel(2, y)", call{name: "Cancel", number: 2, by: y}.do(s), answer{ticket: two})
	wantAnswer(t, "Cancel(2, y)", call{name: "Cancel", number: 2, by: y}.do(s), answer{code: api.ErrTicketNone})
	wantAnswer(t, "Made", call{name: "Made"}.do(s), answer{number: 2})
}

func TestExamples_OverTables(t *testing.T) {
	for _, x := range []struct {
		key, value string
		call       call
		wanted     answer
	}{
		{"nt", zeros(8), call{name: "Made"}, answer{code: api.ErrStoreForm}},
		{"nt", zeros(8), callOf("Open"), answer{code: api.ErrStoreForm}},
		{"nt", zeros(2) + "\x01" + zeros(5), call{name: "Made"}, answer{number: full}},
		{"nt", zeros(2) + "\x01" + zeros(5), callOf("Open"), answer{code: api.ErrTicketFull}},
		{"k" + zeros(7) + "\x05", strings.Repeat("\x01", 80), callOf("Find"), answer{code: api.ErrStoreForm}},
	} {
		table := store.NewTable()
		wantErr(t, "Put", table.Put(x.key, []byte(x.value)), api.OK)
		wantAnswer(t, x.call.name, x.call.do(stateOver(t, table)), x.wanted)
	}
}

// What stands where, written out by hand.
func TestLayout(t *testing.T) {
	s := stateOver(t, store.NewTable())
	first := api.Ticket{Entry: 0x0102030405, Sender: api.Address{0: 0xa1, 19: 0xa2}, Token: 63, To: api.Address{0: 0xb1, 19: 0xb2}, Amount: api.Wide{8, 7, 6, 5}}
	second := api.Ticket{Entry: 0, Token: 0, Amount: below(1)}
	for i, x := range []api.Ticket{first, second, second} {
		wantAnswer(t, "Open", call{name: "Open", ticket: x}.do(s), answer{number: i + 1})
	}
	key := "k" + zeros(7)
	wanted := map[string][2]string{
		"nt":         {"", zeros(7) + "\x03"},
		key + "\x01": {"", zeros(3) + "\x01\x02\x03\x04\x05" + "\xa1" + zeros(18) + "\xa2" + "\x3f" + "\xb1" + zeros(18) + "\xb2" + zeros(7) + "\x05" + zeros(7) + "\x06" + zeros(7) + "\x07" + zeros(7) + "\x08"},
		key + "\x02": {"", zeros(8) + zeros(20) + "\x00" + zeros(20) + strings.Repeat("\xff", 32)},
		key + "\x03": {"", zeros(8) + zeros(20) + "\x00" + zeros(20) + strings.Repeat("\xff", 32)},
	}
	if got := changesOf(s); !maps.Equal(got, wanted) {
		t.Errorf("what stands there: %q, not %q", got, wanted)
	}
	// What is closed is not there any more; how many were made stays.
	wantErr(t, "Cancel", call{name: "Cancel", number: 1, by: first.Sender}.do(s).code, api.OK)
	wantErr(t, "Register", ledger.Register(s, 0), api.OK)
	wantErr(t, "Retry", Retry(s, 2), api.OK)
	delete(wanted, key+"\x01")
	delete(wanted, key+"\x02")
	wanted["t\x00"] = [2]string{"", "\x01" + strings.Repeat("\xff", 32)}
	wanted["b\x00"+zeros(20)] = [2]string{"", strings.Repeat("\xff", 32)}
	if got := changesOf(s); !maps.Equal(got, wanted) {
		t.Errorf("what stands there at last: %q, not %q", got, wanted)
	}
}

// badTickets are tickets that may not be, by one field each.
func badTickets() []api.Ticket {
	var bad []api.Ticket
	for _, turn := range badFields() {
		x := sample()
		turn(&x)
		bad = append(bad, x)
	}
	return bad
}

// badFields are what makes a ticket one that may not be.
func badFields() []func(*api.Ticket) {
	var turns []func(*api.Ticket)
	for _, n := range []int{-1, 1, 2, 7, full, full + 1, 1 << 32, math.MinInt, math.MaxInt} {
		turns = append(turns, func(x *api.Ticket) { x.Number = n })
	}
	for _, n := range []int{-1, full, full + 1, -full, 1<<41 + 7, math.MinInt, math.MaxInt} {
		turns = append(turns, func(x *api.Ticket) { x.Entry = n })
	}
	for _, n := range []int{-1, 64, 65, 255, 256, 256 + 9, -256 + 9, 1<<32 + 9, math.MinInt, math.MaxInt} {
		turns = append(turns, func(x *api.Ticket) { x.Token = n })
	}
	return append(turns, func(x *api.Ticket) { x.Amount = of(0) })
}

func TestP9_1_OpenFields(t *testing.T) {
	refuses := map[string]api.Errno{"nt": api.ErrStoreMissing}
	for _, bad := range badTickets() {
		b := over(t, world(), refuses)
		b.wantRefused(t, "one field", call{name: "Open", ticket: bad}, api.ErrTicketField)
		if len(b.source.asked) != 0 {
			t.Errorf("Open of %v asked %q", bad, b.source.asked)
		}
		for _, turn := range badFields() {
			two := bad
			turn(&two)
			over(t, world(), refuses).wantRefused(t, "two fields", call{name: "Open", ticket: two}, api.ErrTicketField)
		}
	}
}

// The edges that may be: each is opened, and found as it was.
func TestP9_1_OpenEdges(t *testing.T) {
	for _, entry := range []int{0, 1, 255, 256, 1 << 32, full - 1} {
		for _, token := range []int{0, 1, 62, 63} {
			for _, amount := range []api.Wide{of(1), {0, 1}, {0, 0, 0, 1 << 63}, {1, 2, 3, 4}, below(1)} {
				for _, who := range []api.Address{{}, ann(), bob(), api.Address(bytes.Repeat([]byte{0xff}, 20))} {
					x := api.Ticket{Entry: entry, Sender: who, Token: token, To: bob(), Amount: amount}
					b := over(t, map[string]string{}, nil)
					wantAnswer(t, "Open", b.wantCall(t, "edges", call{name: "Open", ticket: x}), answer{number: 1})
					wantAnswer(t, "Find", b.wantCall(t, "edges", call{name: "Find", number: 1}), answer{ticket: numbered(x, 1)})
					x.Sender, x.To = bob(), who
					wantAnswer(t, "Open", b.wantCall(t, "edges", call{name: "Open", ticket: x}), answer{number: 2})
					wantAnswer(t, "Cancel", b.wantCall(t, "edges", call{name: "Cancel", number: 2, by: bob()}), answer{ticket: numbered(x, 2)})
				}
			}
		}
	}
}

func TestP9_1_NumbersThatNoTicketHas(t *testing.T) {
	for _, number := range []int{-1, 0, full + 1, full + 5, -5, -full, 1 << 41, 1<<56 + 5, math.MinInt, math.MinInt + 5, math.MaxInt} {
		has := world()
		has["k"+eightBytes(uint64(number))] = textOf(sample()) // what stands there is not asked
		for _, name := range takesNumber() {
			b := over(t, has, nil)
			b.wantRefused(t, "no number", call{name: name, number: number, by: ann()}, api.ErrTicketNone)
			if len(b.source.asked) != 0 {
				t.Errorf("%s(%d) asked %q", name, number, b.source.asked)
			}
		}
	}
}

func TestP9_1_NumbersThatATicketMayHave(t *testing.T) {
	for _, number := range []int{1, 2, 255, 256, 1 << 32, full - 1, full} {
		for _, name := range takesNumber() {
			c := callOf(name)
			c.number = number
			over(t, map[string]string{"nt": eightBytes(full)}, nil).wantRefused(t, "nothing is there", c, api.ErrTicketNone)
			has := world()
			has["k"+eightBytes(uint64(number))] = textOf(sample())
			wanted := rightAnswer(name)
			if name != "Retry" {
				wanted.ticket.Number = number
			}
			wantAnswer(t, fmt.Sprint(name, number), over(t, has, nil).wantCall(t, "there", c), wanted)
		}
	}
}

// How many were made has nothing to do with what is open.
func TestP9_1_MadeIsNotAsked(t *testing.T) {
	for _, made := range []string{"", "?", zeros(8), eightBytes(1), eightBytes(4), eightBytes(full)} {
		for _, name := range takesNumber() {
			has := world()
			has["nt"] = made
			b := over(t, has, map[string]api.Errno{"nt": api.ErrStoreMissing})
			wantAnswer(t, name, b.wantCall(t, "made", callOf(name)), rightAnswer(name))
		}
	}
}

// badMade are values that do not tell how many were made.
func badMade() []string {
	return []string{
		"\x01", zeros(7), zeros(8), zeros(9), zeros(81), eightBytes(6)[1:], eightBytes(6) + "\x00", "\x00" + eightBytes(6), "?",
		eightBytes(full + 1), eightBytes(full + 6), eightBytes(1 << 41), eightBytes(1<<56 + 6), eightBytes(1 << 62), eightBytes(1<<63 - 1), eightBytes(1 << 63),
		eightBytes(1<<63 + 6), eightBytes(all), zeros(4095) + "\x06", zeros(4096),
	}
}

func TestP9_1_MadeForms(t *testing.T) {
	for _, value := range badMade() {
		for _, name := range []string{"Made", "Open"} {
			has := world()
			has["nt"] = value
			b := over(t, has, nil)
			b.wantRefused(t, fmt.Sprintf("%.20x at nt", value), callOf(name), api.ErrStoreForm)
			if touched := b.state.Touched(); !slices.Equal(touched, []string{"nt"}) {
				t.Errorf("%s touched %q", name, touched)
			}
		}
	}
	for _, n := range []int{1, 2, 255, 256, 1 << 32, full - 2, full - 1} {
		b := over(t, map[string]string{"nt": eightBytes(uint64(n))}, nil)
		wantAnswer(t, "Made", b.wantCall(t, "made", callOf("Made")), answer{number: n})
		wantAnswer(t, "Open", b.wantCall(t, "made", callOf("Open")), answer{number: n + 1})
		wantAnswer(t, "Made", b.wantCall(t, "made", callOf("Made")), answer{number: n + 1})
	}
}

func TestP9_1_Full(t *testing.T) {
	has := map[string]string{"nt": eightBytes(full), keyOf(full): "whatever", "k" + eightBytes(full+1): "whatever"}
	b := over(t, has, nil)
	b.wantRefused(t, "full", callOf("Open"), api.ErrTicketFull)
	wantAnswer(t, "Made", b.wantCall(t, "full", callOf("Made")), answer{number: full})
	b.wantRefused(t, "full", call{name: "Open", ticket: numbered(sample(), 1)}, api.ErrTicketField)
	// The last number is given once.
	has["nt"] = eightBytes(full - 1)
	b = over(t, has, nil)
	wantAnswer(t, "Open", b.wantCall(t, "the last", callOf("Open")), answer{number: full})
	b.wantRefused(t, "none is left", callOf("Open"), api.ErrTicketFull)
	last := callOf("Cancel")
	last.number = full
	wantAnswer(t, "Cancel", b.wantCall(t, "the last", last), answer{ticket: numbered(sample(), full)})
	b.wantRefused(t, "closed, but none is left", callOf("Open"), api.ErrTicketFull)
}

// spoilt is a ticket's text, with other bytes at a place.
func spoilt(at int, bytes string) string {
	text := textOf(sample())
	return text[:at] + bytes + text[at+len(bytes):]
}

// badTexts are values that no open ticket has.
func badTexts() []string {
	good := textOf(sample())
	bad := []string{
		"\x00", "?", zeros(8), zeros(80), zeros(81), zeros(82), good[1:], good[:80], good + "\x00", "\x00" + good, good + good, zeros(4096),
		spoilt(0, eightBytes(full)), spoilt(0, eightBytes(full+7)), spoilt(0, eightBytes(1<<62)), spoilt(0, eightBytes(1<<63-1)),
		spoilt(0, eightBytes(1<<63)), spoilt(0, eightBytes(1<<63+7)), spoilt(0, eightBytes(all)), spoilt(49, zeros(32)),
	}
	for token := 64; token < 256; token++ {
		bad = append(bad, spoilt(28, string([]byte{byte(token)})))
	}
	return bad
}

func TestP9_1_TicketForms(t *testing.T) {
	for _, value := range badTexts() {
		for _, name := range takesNumber() {
			has := world()
			has[keyOf(5)] = value
			b := over(t, has, nil)
			for _, by := range []api.Address{ann(), bob()} {
				c := callOf(name)
				c.by = by
				b.wantRefused(t, fmt.Sprintf("%.90x at the ticket's key", value), c, api.ErrStoreForm)
			}
			if touched := b.state.Touched(); !slices.Equal(touched, []string{keyOf(5)}) {
				t.Errorf("%s touched %q", name, touched)
			}
		}
	}
}

// Values whose every byte turns: what is told is what stands there.
func TestP9_1_EveryByteOfATicket(t *testing.T) {
	for at := range 81 {
		for _, x := range []byte{0, 1, 0x3f, 0x40, 0x7f, 0x80, 0xff} {
			value := []byte(textOf(sample()))
			value[at] = x
			over(t, map[string]string{keyOf(5): string(value)}, nil).wantCall(t, fmt.Sprint("byte ", at), callOf("Find"))
		}
	}
	for _, value := range []string{spoilt(0, eightBytes(full-1)), spoilt(0, eightBytes(0)), spoilt(28, "\x00"), spoilt(28, "\x3f"), spoilt(49, "\x01"+zeros(31)), spoilt(49, zeros(31)+"\x01")} {
		got := over(t, map[string]string{keyOf(5): value}, nil).wantCall(t, "an edge", callOf("Find"))
		if got.code != api.OK || textOf(got.ticket) != value || got.ticket.Number != 5 {
			t.Errorf("%x is found as %v", value, got)
		}
	}
}

// Open lays the ticket whatever stands there.
func TestP9_1_OpenLooksAtNothing(t *testing.T) {
	other := sample()
	other.Amount = of(99)
	for _, value := range append(badTexts(), textOf(other), "") {
		has := world()
		has[keyOf(7)] = value
		b := over(t, has, nil)
		wantAnswer(t, "Open", b.wantCall(t, "Open", callOf("Open")), answer{number: 7})
		wantAnswer(t, "Find", b.wantCall(t, "Find", call{name: "Find", number: 7}), answer{ticket: numbered(sample(), 7)})
	}
}

// Which keys each call asks, in which order, and that none of the others is asked.
func TestP9_1_WhichKeys(t *testing.T) {
	for _, name := range names() {
		keys := keysOf(name)
		refuses := map[string]api.Errno{}
		for _, key := range []string{"a", "ne", "nt", "np", "o", keyOf(4), keyOf(5), keyOf(6), keyOf(7), keyOf(8), tokenKey(9), tokenKey(8), balanceKey(9, ann()), balanceKey(9, bob())} {
			if !slices.Contains(keys, key) {
				refuses[key] = api.ErrStoreMissing
			}
		}
		b := over(t, world(), refuses)
		wantAnswer(t, name, b.wantCall(t, "which keys", callOf(name)), rightAnswer(name))
		if !slices.Equal(b.source.asked, keys) {
			t.Errorf("%s asked %q, not %q", name, b.source.asked, keys)
		}
		if touched := b.state.Touched(); !slices.Equal(touched, slices.Sorted(slices.Values(keys))) {
			t.Errorf("%s touched %q", name, touched)
		}
	}
}

// What each call lays where all is there.
func TestP9_1_WhatIsLaid(t *testing.T) {
	ticket := textOf(sample())
	for name, wanted := range map[string]map[string][2]string{
		"Open": {"nt": {eightBytes(6), eightBytes(7)}, keyOf(7): {"", ticket}},
		"Find": {}, "Made": {},
		"Retry":  {keyOf(5): {ticket, ""}, tokenKey(9): {runningWith(of(30)), runningWith(of(40))}, balanceKey(9, bob()): {value32(of(20)), value32(of(30))}},
		"Cancel": {keyOf(5): {ticket, ""}},
	} {
		b := over(t, world(), nil)
		b.wantCall(t, "laid", callOf(name))
		if got := changesOf(b.state); !maps.Equal(got, wanted) {
			t.Errorf("%s lays %q, not %q", name, got, wanted)
		}
	}
}

func TestP9_1_SourceRefusesAtOneKey(t *testing.T) {
	refusals := []api.Errno{api.ErrArg, api.ErrWideOver, api.ErrStoreMissing, api.ErrStoreForm, api.ErrLedgerNone, api.ErrTicketNone, api.ErrTicketFull, 9999, -1}
	for _, name := range names() {
		for i, key := range keysOf(name) {
			for _, refusal := range refusals {
				refuses := map[string]api.Errno{key: refusal}
				b := over(t, world(), refuses)
				for range 2 { // a refusal is not kept
					b.wantRefused(t, "refused at "+key, callOf(name), refusal)
					if touched := b.state.Touched(); len(b.state.Changes()) != 0 || len(touched) != i {
						t.Errorf("%s, refused at %q: touched %q, changes %q", name, key, touched, b.state.Changes())
					}
				}
				if wanted := append(slices.Clone(keysOf(name)[:i+1]), key); !slices.Equal(b.source.asked, wanted) {
					t.Errorf("%s, refused at %q, asked %q", name, key, b.source.asked)
				}
				delete(refuses, key)
				wantAnswer(t, name, b.wantCall(t, "told at last", callOf(name)), rightAnswer(name))
			}
		}
	}
}

// A value that the store does not take is told by the store's error, at a key that is laid alone, too.
func TestP9_1_TooLongForTheStore(t *testing.T) {
	for _, name := range names() {
		for _, key := range keysOf(name) {
			has := world()
			has[key] = zeros(4097)
			over(t, has, nil).wantRefused(t, "too long", callOf(name), api.ErrStoreValue)
		}
	}
}

// A Retry whose Mint is refused, by each of Mint's errors: the ticket is open then, and is minted once that is mended.
func TestP9_1_RetryRefused(t *testing.T) {
	tok, has := tokenKey(9), balanceKey(9, bob())
	for _, x := range []struct {
		key, value string
		refuse     api.Errno // by the source
		code       api.Errno
	}{
		{tok, "", 0, api.ErrLedgerNone},
		{tok, pausedWith(of(30)), 0, api.ErrLedgerPaused},
		{tok, pausedWith(below(1)), 0, api.ErrLedgerPaused},
		{tok, runningWith(below(1)), 0, api.ErrLedgerOver},
		{tok, runningWith(below(10)), 0, api.ErrLedgerOver},
		{tok, "\x02" + value32(of(30)), 0, api.ErrStoreForm},
		{tok, zeros(32), 0, api.ErrStoreForm},
		{tok, zeros(4097), 0, api.ErrStoreValue},
		{tok, "", api.ErrStoreMissing, api.ErrStoreMissing},
		{has, value32(below(10)), 0, api.ErrStoreForm},
		{has, zeros(32), 0, api.ErrStoreForm},
		{has, zeros(31), 0, api.ErrStoreForm},
		{has, zeros(4097), 0, api.ErrStoreValue},
		{has, "", api.ErrStoreMissing, api.ErrStoreMissing},
	} {
		world := world()
		mended := world[x.key]
		world[x.key] = x.value
		refuses := map[string]api.Errno{x.key: x.refuse}
		b := over(t, world, refuses)
		for range 2 {
			b.wantRefused(t, fmt.Sprintf("%.40x at %q", x.value, x.key), callOf("Retry"), x.code)
			wantAnswer(t, "Find", b.wantCall(t, "open still", callOf("Find")), rightAnswer("Find"))
		}
		delete(refuses, x.key)
		if x.refuse != 0 || x.code == api.ErrStoreValue { // a source that did not tell is asked again
			world[x.key] = mended
		} else {
			b.state.Put(x.key, []byte(mended))
			b.said.put(x.key, mended)
		}
		wantAnswer(t, "Retry", b.wantCall(t, "mended", callOf("Retry")), answer{})
		b.wantRefused(t, "closed", callOf("Retry"), api.ErrTicketNone)
	}
	// Just so much that it goes.
	world := world()
	world[tok], world[has] = runningWith(below(11)), value32(below(11))
	b := over(t, world, nil)
	wantAnswer(t, "Retry", b.wantCall(t, "just", callOf("Retry")), answer{})
	if got, e := ledger.Token(b.state, 9); got.Supply != below(1) || e != api.OK {
		t.Errorf("the supply is %v, %d", got, e)
	}
}

// Who cancels is its sender, by every byte; neither its receiver nor anybody else.
func TestP9_1_CancelsSender(t *testing.T) {
	for _, sender := range []api.Address{{}, ann(), bob(), api.Address(bytes.Repeat([]byte{0xff}, 20))} {
		x := sample()
		x.Sender, x.To = sender, api.Address{5: 5}
		b := over(t, map[string]string{keyOf(5): textOf(x)}, nil)
		others := []api.Address{x.To}
		for i := range sender {
			other := sender
			other[i] ^= 1 << (i % 8)
			others = append(others, other)
		}
		for _, by := range others {
			b.wantRefused(t, "another one's", call{name: "Cancel", number: 5, by: by}, api.ErrTicketSender)
		}
		wantAnswer(t, "Cancel", b.wantCall(t, "its sender's", call{name: "Cancel", number: 5, by: sender}), answer{ticket: numbered(x, 5)})
		for _, by := range append(others, sender) {
			b.wantRefused(t, "closed", call{name: "Cancel", number: 5, by: by}, api.ErrTicketNone)
		}
	}
}

// Where two errors apply, the one that the row names first: each turns one thing of a world in which the call would be done.
func TestP9_1_WhichErrorFirst(t *testing.T) {
	type turn struct {
		key, value string
		refuse     api.Errno // by the source
		call       func(*call)
		code       api.Errno
	}
	missing := func(key string) turn { return turn{key, "", api.ErrStoreMissing, nil, api.ErrStoreMissing} }
	form := func(key string) turn { return turn{key, "?", 0, nil, api.ErrStoreForm} }
	is := func(key, value string, code api.Errno) turn { return turn{key, value, 0, nil, code} }
	asks := func(code api.Errno, do func(*call)) turn { return turn{"", "", 0, do, code} }
	none := asks(90, func(c *call) { c.number = 0 })
	tok, has, key := tokenKey(9), balanceKey(9, bob()), keyOf(5)
	for name, turns := range map[string][]turn{
		"Open":   {asks(93, func(c *call) { c.ticket.Token = 64 }), missing("nt"), form("nt"), is("nt", eightBytes(full), 92), missing(keyOf(7))},
		"Find":   {none, missing(key), is(key, "", 90), form(key)},
		"Made":   {missing("nt"), form("nt")},
		"Retry":  {none, missing(key), is(key, "", 90), form(key), missing(tok), form(tok), is(tok, "", 81), is(tok, pausedWith(below(1)), 83), is(tok, runningWith(below(10)), 87), missing(has), form(has), is(has, value32(below(10)), 75)},
		"Cancel": {none, missing(key), is(key, "", 90), form(key), asks(91, func(c *call) { c.by = bob() })},
	} {
		for i, first := range turns {
			for _, then := range turns[i:] {
				if first.key == then.key && first.code != then.code {
					continue // one value can not be two
				}
				c, has, refuses := callOf(name), world(), map[string]api.Errno{}
				for _, w := range []turn{then, first} {
					if w.call != nil {
						w.call(&c)
						continue
					}
					has[w.key], refuses[w.key] = w.value, w.refuse
				}
				b := over(t, has, refuses)
				b.wantRefused(t, fmt.Sprintf("%s: %d at %q ahead of %d at %q", name, first.code, first.key, then.code, then.key), c, first.code)
			}
		}
	}
}
