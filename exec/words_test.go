package exec

import (
	"crypto/sha256"
	"maps"
	"math/big"
	"slices"

	"causeway/api"
	"causeway/letter"
	"causeway/machine"
)

// The second reckoning: a shelf is what a source has and what was laid over it, as texts. An error that refuses an entry as a whole is a panic there, and an error of a letter is answered, so that the two are never one. What is taken back is taken from a copy that was made ahead. Numbers are the library's; errors and limits are written out, not taken from api. Letters are read, and programs run, by the layers below, with a host of the shelf's own; the rows of ledger, ticket and outbox are reckoned here once more.

// refusal is why an entry is refused as a whole.
type refusal struct{ code api.Errno }

func refuse(code api.Errno) { panic(refusal{code}) }

// form refuses a value that is not of its form.
func form(is bool) {
	if !is {
		refuse(75)
	}
}

// shelf is what a state is by the words.
type shelf struct {
	has     map[string]string    // what the source has
	refuses map[string]api.Errno // where it refuses
	now     map[string]string    // of each key that was told: what stands there
	asked   []string             // what the source was asked
}

func newShelf(has map[string]string, refuses map[string]api.Errno) *shelf {
	return &shelf{has: has, refuses: refuses, now: map[string]string{}}
}

func (x *shelf) get(key string) string {
	if value, told := x.now[key]; told {
		return value
	}
	x.asked = append(x.asked, key)
	if e := x.refuses[key]; e != 0 {
		refuse(e)
	}
	if len(x.has[key]) > 4096 {
		refuse(71)
	}
	x.now[key] = x.has[key]
	return x.now[key]
}

func (x *shelf) put(key, value string) {
	x.get(key)
	x.now[key] = value
}

// back lets every key hold what it held when a copy was made; what was told since stays told.
func (x *shelf) back(was map[string]string) {
	for key := range x.now {
		if value, told := was[key]; told {
			x.now[key] = value
		} else {
			x.now[key] = x.has[key]
		}
	}
}

func (x *shelf) touched() []string { return slices.Sorted(maps.Keys(x.now)) }

func (x *shelf) changes() map[string][2]string {
	all := map[string][2]string{}
	for key, value := range x.now {
		if x.has[key] != value {
			all[key] = [2]string{x.has[key], value}
		}
	}
	return all
}

func sha(text string) string {
	d := sha256.Sum256([]byte(text))
	return string(d[:])
}

func bigOf(a api.Wide) *big.Int {
	n := new(big.Int)
	for i := 3; i >= 0; i-- {
		n.Lsh(n, 64).Or(n, new(big.Int).SetUint64(a[i]))
	}
	return n
}

func wideOf(n *big.Int) api.Wide {
	var a api.Wide
	for i := range a {
		a[i] = new(big.Int).Rsh(n, uint(64*i)).Uint64()
	}
	return a
}

// inBytes is a number in so many bytes, the highest first; inEight is one in 8.
func inBytes(n *big.Int, width int) string { return string(n.FillBytes(make([]byte, width))) }
func inEight(n int) string                 { return inBytes(big.NewInt(int64(n)), 8) }

// numberIn is the number that bytes are.
func numberIn(text string) *big.Int { return new(big.Int).SetBytes([]byte(text)) }

// most is 2^40.
func most() *big.Int { return new(big.Int).Lsh(big.NewInt(1), 40) }

// inForm is a number by chapter 3: how many bytes it has, and they.
func inForm(n *big.Int) string { return string([]byte{byte(len(n.Bytes()))}) + string(n.Bytes()) }

func tokenKey(token int) string { return "t" + string([]byte{byte(token)}) }
func balanceKey(token int, who api.Address) string {
	return "b" + string([]byte{byte(token)}) + string(who[:])
}
func allowanceKey(token int, owner, spender api.Address) string {
	return "l" + string([]byte{byte(token)}) + string(owner[:]) + string(spender[:])
}
func ticketOf(number int) string  { return "k" + inEight(number) }
func programOf(number int) string { return "p" + inEight(number) }
func slotOf(number int, slot api.Wide) string {
	return "s" + inEight(number) + inBytes(bigOf(slot), 32)
}

// homeOf is the home of a program.
func homeOf(number int) api.Address {
	return api.Address([]byte(sha("program" + inEight(number))[:20]))
}

// number asks for how many there are of something.
func (x *shelf) number(key string) int {
	value := x.get(key)
	if value == "" {
		return 0
	}
	n := numberIn(value)
	form(len(value) == 8 && n.Sign() > 0 && n.Cmp(most()) <= 0)
	return int(n.Int64())
}

func (x *shelf) layNumber(key string, n int) { x.put(key, inEight(n)) }

// token asks for a token's first byte (0: it is not there) and its supply.
func (x *shelf) token(token int) (byte, *big.Int) {
	value := x.get(tokenKey(token))
	if value == "" {
		return 0, new(big.Int)
	}
	form(len(value) == 33 && (value[0] == 1 || value[0] == 3))
	return value[0], numberIn(value[1:])
}

// running asks for a token that is there and is not paused.
func (x *shelf) running(token int) (*big.Int, api.Errno) {
	switch first, supply := x.token(token); first {
	case 0:
		return nil, 81
	case 3:
		return nil, 83
	default:
		return supply, 0
	}
}

// amount asks for a balance, an allowance or a slot.
func (x *shelf) amount(key string) *big.Int {
	value := x.get(key)
	n := numberIn(value)
	form(value == "" || len(value) == 32 && n.Sign() != 0)
	return n
}

func (x *shelf) layAmount(key string, n *big.Int) {
	if n.Sign() == 0 {
		x.put(key, "")
		return
	}
	x.put(key, inBytes(n, 32))
}

func plus(a, b *big.Int) *big.Int  { return new(big.Int).Add(a, b) }
func minus(a, b *big.Int) *big.Int { return new(big.Int).Sub(a, b) }

func (x *shelf) mint(token int, to api.Address, amount *big.Int) api.Errno {
	supply, e := x.running(token)
	if e != 0 {
		return e
	}
	if plus(supply, amount).BitLen() > 256 {
		return 87
	}
	has := x.amount(balanceKey(token, to))
	form(plus(has, amount).BitLen() <= 256)
	if amount.Sign() != 0 {
		x.put(tokenKey(token), "\x01"+inBytes(plus(supply, amount), 32))
		x.layAmount(balanceKey(token, to), plus(has, amount))
	}
	return 0
}

func (x *shelf) burn(token int, from api.Address, amount *big.Int) api.Errno {
	supply, e := x.running(token)
	if e != 0 {
		return e
	}
	has := x.amount(balanceKey(token, from))
	if has.Cmp(amount) < 0 {
		return 85
	}
	form(supply.Cmp(amount) >= 0)
	if amount.Sign() != 0 {
		x.put(tokenKey(token), "\x01"+inBytes(minus(supply, amount), 32))
		x.layAmount(balanceKey(token, from), minus(has, amount))
	}
	return 0
}

// shift is Move and Pull from "The balance of from is asked" on; ahead is what is laid ahead of the balances.
func (x *shelf) shift(token int, from, to api.Address, amount *big.Int, ahead func()) api.Errno {
	out := x.amount(balanceKey(token, from))
	if out.Cmp(amount) < 0 {
		return 85
	}
	into := x.amount(balanceKey(token, to))
	form(from == to || plus(into, amount).BitLen() <= 256)
	if amount.Sign() == 0 {
		return 0
	}
	ahead()
	if from != to {
		x.layAmount(balanceKey(token, from), minus(out, amount))
		x.layAmount(balanceKey(token, to), plus(into, amount))
	}
	return 0
}

func (x *shelf) move(token int, from, to api.Address, amount *big.Int) api.Errno {
	if _, e := x.running(token); e != 0 {
		return e
	}
	return x.shift(token, from, to, amount, func() {})
}

func (x *shelf) allow(token int, owner, spender api.Address, amount *big.Int) api.Errno {
	if first, _ := x.token(token); first == 0 {
		return 81
	}
	x.layAmount(allowanceKey(token, owner, spender), amount)
	return 0
}

func (x *shelf) pull(token int, spender, from, to api.Address, amount *big.Int) api.Errno {
	if _, e := x.running(token); e != 0 {
		return e
	}
	key := allowanceKey(token, from, spender)
	allowed := x.amount(key)
	if allowed.Cmp(amount) < 0 {
		return 86
	}
	return x.shift(token, from, to, amount, func() { x.layAmount(key, minus(allowed, amount)) })
}

// ticketText is a ticket as it stands in a store.
func ticketText(t api.Ticket) string {
	return inEight(t.Entry) + string(t.Sender[:]) + string([]byte{byte(t.Token)}) + string(t.To[:]) + inBytes(bigOf(t.Amount), 32)
}

// openTicket opens one, or refuses the entry.
func (x *shelf) openTicket(t api.Ticket) int {
	n := x.number("nt")
	if int64(n) == most().Int64() {
		refuse(92)
	}
	x.put(ticketOf(n+1), ticketText(t))
	x.layNumber("nt", n+1)
	return n + 1
}

func (x *shelf) findTicket(number int) (api.Ticket, api.Errno) {
	value := x.get(ticketOf(number))
	if value == "" {
		return api.Ticket{}, 90
	}
	form(len(value) == 81)
	form(numberIn(value[:8]).Cmp(most()) < 0 && value[28] < 64 && numberIn(value[49:]).Sign() != 0)
	return api.Ticket{
		Number: number, Entry: int(numberIn(value[:8]).Int64()), Sender: api.Address([]byte(value[8:28])), Token: int(value[28]),
		To: api.Address([]byte(value[29:49])), Amount: wideOf(numberIn(value[49:])),
	}, 0
}

// leafText is a leaf's bytes.
func leafText(l api.Leaf) string {
	of := func(n int) string { return inForm(big.NewInt(int64(n))) }
	return "L" + of(l.Index) + of(l.Entry) + of(l.Token) + string(l.To[:]) + inForm(bigOf(l.Amount))
}

// box asks for the outbox: how many leaves, and the frontier.
func (x *shelf) box() (int, []string) {
	value := x.get("o")
	if value == "" {
		return 0, nil
	}
	form(len(value) >= 8)
	n := numberIn(value[:8])
	form(n.Sign() > 0 && n.Cmp(most()) <= 0)
	ones := 0
	for i := range n.BitLen() {
		ones += int(n.Bit(i))
	}
	form(len(value) == 8+32*ones)
	var front []string
	for at := 8; at < len(value); at += 32 {
		front = append(front, value[at:at+32])
	}
	return int(n.Int64()), front
}

// grown is a frontier with one leaf more, where there were n.
func grown(n int, front []string, text string) []string {
	front = append(slices.Clone(front), sha("\x00"+text))
	for ; n%2 == 1; n /= 2 {
		last := len(front) - 1
		front = append(front[:last-1], sha("\x01"+front[last-1]+front[last]))
	}
	return front
}

func (x *shelf) addLeaf(l api.Leaf) (api.Leaf, api.Errno) {
	if bigOf(l.Amount).Sign() == 0 {
		return l, 110
	}
	n, front := x.box()
	if int64(n) == most().Int64() {
		return l, 114
	}
	l.Index = n
	value := inEight(n + 1)
	for _, d := range grown(n, front, leafText(l)) {
		value += d
	}
	x.put("o", value)
	return l, 0
}

// entrySaid is an entry that is done on a shelf.
type entrySaid struct {
	*shelf
	index  int
	entry  api.Entry
	leaves []api.Leaf
}

// apply is Apply by the words.
func (x *shelf) apply(index int, e api.Entry) (receipt api.Receipt, leaves []api.Leaf, code api.Errno) {
	was := maps.Clone(x.now)
	defer func() {
		if why := recover(); why != nil {
			x.back(was)
			receipt, leaves, code = api.Receipt{}, nil, why.(refusal).code
		}
	}()
	if letter.CheckEntry(e) != 0 {
		refuse(121)
	}
	count := x.number("ne")
	if index != count {
		refuse(120)
	}
	if int64(count) == most().Int64() {
		refuse(126)
	}
	d := &entrySaid{shelf: x, index: index, entry: e}
	if e.Kind == 1 {
		receipt = d.deposit()
	} else {
		receipt = d.call()
	}
	x.layNumber("ne", count+1)
	return receipt, d.leaves, 0
}

func (d *entrySaid) deposit() api.Receipt {
	e := d.entry
	if e.Gas >= 100 && d.mint(e.Token, e.To, bigOf(e.Amount)) == 0 {
		return api.Receipt{}
	}
	number := d.openTicket(api.Ticket{Entry: d.index, Sender: e.Sender, Token: e.Token, To: e.To, Amount: e.Amount})
	return api.Receipt{Code: 122, Number: number}
}

func (d *entrySaid) call() api.Receipt {
	l, e := letter.Read(d.entry.Body)
	if e != 0 {
		return api.Receipt{Code: 123}
	}
	was := maps.Clone(d.now)
	receipt := d.letter(l)
	if receipt.Code != 0 {
		d.back(was)
		d.leaves = nil
		return receipt
	}
	if len(d.leaves) > 0 {
		receipt.First, receipt.Leaves = d.leaves[0].Index, len(d.leaves)
	}
	return receipt
}

// letter does a letter by its row: what it tells, or its error as Code, and Part.
func (d *entrySaid) letter(l api.Letter) api.Receipt {
	by, amount := d.entry.Sender, bigOf(l.Amount)
	switch l.Kind {
	case 1:
		return api.Receipt{Code: d.move(l.Token, by, l.To, amount)}
	case 2:
		if e := d.burn(l.Token, by, amount); e != 0 {
			return api.Receipt{Code: e}
		}
		return d.leave(l.Token, l.To, l.Amount)
	case 3:
		return api.Receipt{Code: d.allow(l.Token, by, l.To, amount)}
	case 4:
		return api.Receipt{Code: d.pull(l.Token, by, l.From, l.To, amount)}
	case 5:
		return d.retry(l.Number)
	case 6:
		return d.cancel(l.Number)
	case 7, 8, 9:
		return d.admin(l)
	case 10:
		return d.program(l)
	case 11:
		return d.run(l)
	}
	return d.parts(l.Parts)
}

func (d *entrySaid) leave(token int, to api.Address, amount api.Wide) api.Receipt {
	l, e := d.addLeaf(api.Leaf{Entry: d.index, Token: token, To: to, Amount: amount})
	if e != 0 {
		return api.Receipt{Code: e}
	}
	d.leaves = append(d.leaves, l)
	return api.Receipt{}
}

func (d *entrySaid) retry(number int) api.Receipt {
	t, e := d.findTicket(number)
	if e == 0 {
		e = d.mint(t.Token, t.To, bigOf(t.Amount))
	}
	if e == 0 {
		d.put(ticketOf(number), "")
	}
	return api.Receipt{Code: e}
}

func (d *entrySaid) cancel(number int) api.Receipt {
	t, e := d.findTicket(number)
	if e != 0 {
		return api.Receipt{Code: e}
	}
	if t.Sender != d.entry.Sender {
		return api.Receipt{Code: 91}
	}
	d.put(ticketOf(number), "")
	return d.leave(t.Token, t.Sender, t.Amount)
}

func (d *entrySaid) admin(l api.Letter) api.Receipt {
	admin := d.get("a")
	form(len(admin) == 20)
	if admin != string(d.entry.Sender[:]) {
		return api.Receipt{Code: 124}
	}
	first, supply := d.token(l.Token)
	behind := "\x01"
	switch {
	case l.Kind == 7 && first != 0:
		return api.Receipt{Code: 82}
	case l.Kind != 7 && first == 0:
		return api.Receipt{Code: 81}
	case l.Kind == 8 && first == 3:
		return api.Receipt{Code: 83}
	case l.Kind == 9 && first == 1:
		return api.Receipt{Code: 84}
	case l.Kind == 8:
		behind = "\x03"
	}
	d.put(tokenKey(l.Token), behind+inBytes(supply, 32))
	return api.Receipt{}
}

func (d *entrySaid) program(l api.Letter) api.Receipt {
	if machine.Check(l.Code) != 0 {
		return api.Receipt{Code: 100}
	}
	n := d.number("np")
	if int64(n) == most().Int64() {
		return api.Receipt{Code: 126}
	}
	d.put(programOf(n+1), string(l.Code))
	d.layNumber("np", n+1)
	return api.Receipt{Number: n + 1}
}

func (d *entrySaid) run(l api.Letter) api.Receipt {
	code := d.get(programOf(l.Number))
	if code == "" {
		return api.Receipt{Code: 125}
	}
	form(machine.Check([]byte(code)) == 0)
	home := homeOf(l.Number)
	if bigOf(l.Amount).Sign() != 0 {
		if e := d.move(l.Token, d.entry.Sender, home, bigOf(l.Amount)); e != 0 {
			return api.Receipt{Code: e}
		}
	}
	ran, e := machine.Run([]byte(code), api.Call{
		Self: home, Caller: d.entry.Sender, Token: l.Token, Amount: l.Amount, Args: l.Args, Time: d.entry.Time, Gas: l.Gas,
	}, saidHost{d.shelf, l.Number})
	return api.Receipt{Code: e, Value: ran.Value, Gas: ran.Gas}
}

func (d *entrySaid) parts(parts []api.Letter) api.Receipt {
	all := api.Receipt{}
	for i, part := range parts {
		told := d.letter(part)
		if told.Code != 0 {
			return api.Receipt{Code: told.Code, Part: i + 1}
		}
		if part.Kind == 10 {
			all.Number = told.Number
		}
		if part.Kind == 11 {
			all.Value = told.Value
			all.Gas += told.Gas
		}
	}
	return all
}

// saidHost is a program's host on a shelf.
type saidHost struct {
	shelf  *shelf
	number int
}

func (h saidHost) Load(slot api.Wide) (api.Wide, api.Errno) {
	return wideOf(h.shelf.amount(slotOf(h.number, slot))), 0
}

func (h saidHost) Save(slot, value api.Wide) api.Errno {
	h.shelf.layAmount(slotOf(h.number, slot), bigOf(value))
	return 0
}

func (h saidHost) Have(token int, who api.Address) (api.Wide, api.Errno) {
	return wideOf(h.shelf.amount(balanceKey(token, who))), 0
}

func (h saidHost) Send(token int, to api.Address, amount api.Wide) api.Errno {
	return h.shelf.move(token, homeOf(h.number), to, bigOf(amount))
}

// commit is Commit by the words, of a table that has what a map has; its root is left out.
func commitSaid(has map[string]string) (c api.Commit, code api.Errno) {
	defer func() {
		if why := recover(); why != nil {
			c, code = api.Commit{}, why.(refusal).code
		}
	}()
	x := newShelf(has, nil)
	c.Count = x.number("ne")
	n, front := x.box()
	root := sha("")
	for i, d := range slices.Backward(front) {
		if i == len(front)-1 {
			root = d
		} else {
			root = sha("\x01" + d + root)
		}
	}
	c.Leaves, c.Outbox = n, api.Digest([]byte(root))
	return c, 0
}
