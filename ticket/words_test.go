package ticket

import (
	"maps"
	"math/big"
	"slices"

	"causeway/api"
	"causeway/ledger"
	"causeway/store"
)

// The second reckoning: a shelf is what a source has and what was laid over it, as texts; each call is the steps of its row, up to the first error; numbers are the library's. Errors and limits are written out, not taken from api. The ledger's rows that scripts need are reckoned here once more.

// shelf is what a state is by the words.
type shelf struct {
	has     map[string]string    // what the source has
	refuses map[string]api.Errno // where it refuses
	now     map[string]string    // of each key that was told: what stands there
	asked   []string             // what the source was asked
}

func newShelf(has map[string]string, refuses map[string]api.Errno) *shelf {
	return &shelf{has: has, refuses: refuses, now: map[string]string{}}
}

func (x *shelf) get(key string) (string, api.Errno) {
	if value, told := x.now[key]; told {
		return value, 0
	}
	x.asked = append(x.asked, key)
	if e := x.refuses[key]; e != 0 {
		return "", e
	}
	if len(x.has[key]) > 4096 {
		return "", 71
	}
	x.now[key] = x.has[key]
	return x.now[key], 0
}

func (x *shelf) put(key, value string) api.Errno {
	if _, e := x.get(key); e != 0 {
		return e
	}
	x.now[key] = value
	return 0
}

func (x *shelf) touched() []string { return slices.Sorted(maps.Keys(x.now)) }

func (x *shelf) changes() map[string][2]string {
	all := map[string][2]string{}
	for key, value := range x.now {
		if x.has[key] != value {
			all[key] = [2]string{x.has[key], value}
		}
	}
	return all
}

func keyOf(number int) string   { return "k" + inBytes(big.NewInt(int64(number)), 8) }
func tokenKey(token int) string { return "t" + string([]byte{byte(token)}) }
func balanceKey(token int, who api.Address) string {
	return "b" + string([]byte{byte(token)}) + string(who[:])
}

func bigOf(a api.Wide) *big.Int {
	n := new(big.Int)
	for i := 3; i >= 0; i-- {
		n.Lsh(n, 64).Or(n, new(big.Int).SetUint64(a[i]))
	}
	return n
}

func wideOf(n *big.Int) api.Wide {
	var a api.Wide
	for i := range a {
		a[i] = new(big.Int).Rsh(n, uint(64*i)).Uint64()
	}
	return a
}

// inBytes is a number in so many bytes, the highest first.
func inBytes(n *big.Int, width int) string { return string(n.FillBytes(make([]byte, width))) }

// numberIn is the number that bytes are.
func numberIn(text string) *big.Int { return new(big.Int).SetBytes([]byte(text)) }

// most is 2^40.
func most() *big.Int { return new(big.Int).Lsh(big.NewInt(1), 40) }

// textOf is a ticket as it stands in a store.
func textOf(t api.Ticket) string {
	return inBytes(big.NewInt(int64(t.Entry)), 8) + string(t.Sender[:]) + string([]byte{byte(t.Token)}) + string(t.To[:]) + inBytes(bigOf(t.Amount), 32)
}

func (x *shelf) made() (int, api.Errno) {
	value, e := x.get("nt")
	n := numberIn(value)
	switch {
	case e != 0:
		return 0, e
	case value == "":
		return 0, 0
	case len(value) != 8, n.Sign() == 0, n.Cmp(most()) > 0:
		return 0, 75
	}
	return int(n.Int64()), 0
}

func (x *shelf) open(t api.Ticket) (int, api.Errno) {
	entry := big.NewInt(int64(t.Entry))
	if t.Number != 0 || entry.Sign() < 0 || entry.Cmp(most()) >= 0 || t.Token < 0 || t.Token > 63 || bigOf(t.Amount).Sign() == 0 {
		return 0, 93
	}
	n, e := x.made()
	if e != 0 {
		return 0, e
	}
	if big.NewInt(int64(n)).Cmp(most()) == 0 {
		return 0, 92
	}
	if e := x.put(keyOf(n+1), textOf(t)); e != 0 {
		return 0, e
	}
	return n + 1, x.put("nt", inBytes(big.NewInt(int64(n+1)), 8))
}

func (x *shelf) find(number int) (t api.Ticket, e api.Errno) {
	if number < 1 || big.NewInt(int64(number)).Cmp(most()) > 0 {
		return t, 90
	}
	value, e := x.get(keyOf(number))
	switch {
	case e != 0:
		return t, e
	case value == "":
		return t, 90
	case len(value) != 81, numberIn(value[:8]).Cmp(most()) >= 0, value[28] > 63, numberIn(value[49:]).Sign() == 0:
		return t, 75
	}
	return api.Ticket{
		Number: number, Entry: int(numberIn(value[:8]).Int64()), Sender: api.Address([]byte(value[8:28])), Token: int(value[28]),
		To: api.Address([]byte(value[29:49])), Amount: wideOf(numberIn(value[49:])),
	}, 0
}

func (x *shelf) retry(number int) api.Errno {
	t, e := x.find(number)
	if e != 0 {
		return e
	}
	if e := x.mint(t.Token, t.To, bigOf(t.Amount)); e != 0 {
		return e
	}
	return x.put(keyOf(number), "")
}

func (x *shelf) cancel(number int, by api.Address) (api.Ticket, api.Errno) {
	t, e := x.find(number)
	if e != 0 {
		return t, e
	}
	if string(by[:]) != string(t.Sender[:]) {
		return api.Ticket{}, 91
	}
	return t, x.put(keyOf(number), "")
}

// token asks for a token's first byte (0: it is not there) and its supply.
func (x *shelf) token(token int) (byte, *big.Int, api.Errno) {
	value, e := x.get(tokenKey(token))
	switch {
	case e != 0:
		return 0, nil, e
	case value == "":
		return 0, new(big.Int), 0
	case len(value) != 33 || value[0] != 1 && value[0] != 3:
		return 0, nil, 75
	}
	return value[0], numberIn(value[1:]), 0
}

// running asks for a token that is there and is not paused.
func (x *shelf) running(token int) (*big.Int, api.Errno) {
	first, supply, e := x.token(token)
	switch {
	case e != 0:
		return nil, e
	case first == 0:
		return nil, 81
	case first == 3:
		return nil, 83
	}
	return supply, 0
}

func (x *shelf) balance(token int, who api.Address) (*big.Int, api.Errno) {
	value, e := x.get(balanceKey(token, who))
	n := numberIn(value)
	if e == 0 && value != "" && (len(value) != 32 || n.Sign() == 0) {
		e = 75
	}
	return n, e
}

func (x *shelf) mint(token int, to api.Address, amount *big.Int) api.Errno {
	supply, e := x.running(token)
	if e != 0 {
		return e
	}
	if supply.Add(supply, amount).BitLen() > 256 {
		return 87
	}
	has, e := x.balance(token, to)
	if e != 0 {
		return e
	}
	if has.Add(has, amount).BitLen() > 256 {
		return 75
	}
	return x.turn(token, to, amount, supply, has)
}

func (x *shelf) burn(token int, from api.Address, amount *big.Int) api.Errno {
	supply, e := x.running(token)
	if e != 0 {
		return e
	}
	has, e := x.balance(token, from)
	switch {
	case e != 0:
		return e
	case has.Cmp(amount) < 0:
		return 85
	case supply.Cmp(amount) < 0:
		return 75
	}
	return x.turn(token, from, amount, supply.Sub(supply, amount), has.Sub(has, amount))
}

// turn lays a supply and a balance that are others by an amount.
func (x *shelf) turn(token int, who api.Address, amount, supply, has *big.Int) api.Errno {
	if amount.Sign() == 0 {
		return 0
	}
	value := ""
	if has.Sign() != 0 {
		value = inBytes(has, 32)
	}
	if e := x.put(tokenKey(token), "\x01"+inBytes(supply, 32)); e != 0 {
		return e
	}
	return x.put(balanceKey(token, who), value)
}

// let is Register, Pause or Resume: from a first byte to another one, or one of two errors.
func (x *shelf) let(token int, name string) api.Errno {
	first, supply, e := x.token(token)
	switch {
	case e != 0:
		return e
	case name == "Register" && first != 0:
		return 82
	case name != "Register" && first == 0:
		return 81
	case name == "Pause" && first == 3:
		return 83
	case name == "Resume" && first == 1:
		return 84
	}
	behind := "\x01"
	if name == "Pause" {
		behind = "\x03"
	}
	return x.put(tokenKey(token), behind+inBytes(supply, 32))
}

// call is one of the chapter's or of the ledger's, with its arguments: of the ledger's the ticket's Token, To and Amount count.
type call struct {
	name   string
	ticket api.Ticket
	number int
	by     api.Address
}

// answer is what a call answers; what it does not tell is zero.
type answer struct {
	number int
	ticket api.Ticket
	code   api.Errno
}

// names are the chapter's calls, in its order.
func names() []string { return []string{"Open", "Find", "Made", "Retry", "Cancel"} }

// say is what the words answer, and what becomes of a shelf.
func (c call) say(x *shelf) (told answer) {
	t := c.ticket
	switch c.name {
	case "Open":
		told.number, told.code = x.open(t)
	case "Find":
		told.ticket, told.code = x.find(c.number)
	case "Made":
		told.number, told.code = x.made()
	case "Retry":
		told.code = x.retry(c.number)
	case "Cancel":
		told.ticket, told.code = x.cancel(c.number, c.by)
	case "Mint":
		told.code = x.mint(t.Token, t.To, bigOf(t.Amount))
	case "Burn":
		told.code = x.burn(t.Token, t.To, bigOf(t.Amount))
	default:
		told.code = x.let(t.Token, c.name)
	}
	return told
}

// do is what the packages answer.
func (c call) do(s *store.State) (told answer) {
	t := c.ticket
	switch c.name {
	case "Open":
		told.number, told.code = Open(s, t)
	case "Find":
		told.ticket, told.code = Find(s, c.number)
	case "Made":
		told.number, told.code = Made(s)
	case "Retry":
		told.code = Retry(s, c.number)
	case "Cancel":
		told.ticket, told.code = Cancel(s, c.number, c.by)
	case "Mint":
		told.code = ledger.Mint(s, t.Token, t.To, t.Amount)
	case "Burn":
		told.code = ledger.Burn(s, t.Token, t.To, t.Amount)
	case "Register":
		told.code = ledger.Register(s, t.Token)
	case "Pause":
		told.code = ledger.Pause(s, t.Token)
	case "Resume":
		told.code = ledger.Resume(s, t.Token)
	}
	return told
}
