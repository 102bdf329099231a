package escrow

import (
	"fmt"
	"math"
	"math/big"
	"slices"

	"causeway/api"
)

// The second reckoning: a vault is rows of all 64 tokens, a list of the indices in the order in which they were paid, and the library's numbers; each call is the errors of its row, in order, and then what it does. Errors and limits are written out, not taken from api.

// said is what a vault is by the words.
type said struct {
	listed, stopped [64]bool
	held            [64]*big.Int // never turned in place, so that copies may share them
	paid            []int
	locked          *big.Int
}

func newSaid() *said {
	s := &said{locked: new(big.Int)}
	for i := range s.held {
		s.held[i] = new(big.Int)
	}
	return s
}

func (s *said) copied() *said {
	c := *s
	c.paid = slices.Clone(s.paid)
	return &c
}

func bigOf(a api.Wide) *big.Int {
	n := new(big.Int)
	for i := 3; i >= 0; i-- {
		n.Lsh(n, 64).Or(n, new(big.Int).SetUint64(a[i]))
	}
	return n
}

func wideOf(n *big.Int) api.Wide {
	var a api.Wide
	for i := range a {
		a[i] = new(big.Int).Rsh(n, uint(64*i)).Uint64()
	}
	return a
}

// tooMuch tells whether a number is 2^256 or more.
func tooMuch(n *big.Int) bool { return n.Cmp(new(big.Int).Lsh(big.NewInt(1), 256)) >= 0 }

func (s *said) list(token int) api.Errno {
	if token < 0 || token > 63 {
		return 140
	}
	if s.listed[token] {
		return 142
	}
	s.listed[token], s.stopped[token], s.held[token] = true, false, new(big.Int)
	return 0
}

func (s *said) stop(token int, stop bool) api.Errno {
	if token < 0 || token > 63 {
		return 140
	}
	if !s.listed[token] {
		return 141
	}
	if stop && s.stopped[token] || !stop && !s.stopped[token] {
		return 143
	}
	s.stopped[token] = stop
	return 0
}

func (s *said) deposit(token int, amount *big.Int) api.Errno {
	if token < 0 || token > 63 {
		return 140
	}
	if !s.listed[token] {
		return 141
	}
	if s.stopped[token] {
		return 143
	}
	if amount.Sign() == 0 {
		return 144
	}
	sum := new(big.Int).Add(s.held[token], amount)
	if tooMuch(sum) {
		return 145
	}
	s.held[token] = sum
	return 0
}

func (s *said) pay(index, token int, amount *big.Int) api.Errno {
	if index < 0 || index > 1099511627775 {
		return 148
	}
	if token < 0 || token > 63 {
		return 140
	}
	if !s.listed[token] {
		return 141
	}
	if slices.Contains(s.paid, index) {
		return 147
	}
	if s.held[token].Cmp(amount) < 0 {
		return 146
	}
	s.held[token] = new(big.Int).Sub(s.held[token], amount)
	s.paid = append(s.paid, index)
	return 0
}

func (s *said) lock(amount *big.Int) api.Errno {
	sum := new(big.Int).Add(s.locked, amount)
	if tooMuch(sum) {
		return 145
	}
	s.locked = sum
	return 0
}

func (s *said) free(amount *big.Int) api.Errno {
	if s.locked.Cmp(amount) < 0 {
		return 149
	}
	s.locked = new(big.Int).Sub(s.locked, amount)
	return 0
}

func (s *said) isListed(token int) (bool, bool) {
	if token < 0 || token > 63 {
		return false, false
	}
	return s.listed[token], s.stopped[token]
}

func (s *said) heldOf(token int) api.Wide {
	if token < 0 || token > 63 || !s.listed[token] {
		return api.Wide{}
	}
	return wideOf(s.held[token])
}

// call is a call that can be refused.
type call struct {
	name         string
	index, token int
	stop         bool
	amount       api.Wide
}

func (c call) String() string {
	switch c.name {
	case "List":
		return fmt.Sprintf("List(%d)", c.token)
	case "Stop":
		return fmt.Sprintf("Stop(%d, %v)", c.token, c.stop)
	case "Deposit":
		return fmt.Sprintf("Deposit(%d, %v)", c.token, bigOf(c.amount))
	case "Pay":
		return fmt.Sprintf("Pay(%d, %d, %v)", c.index, c.token, bigOf(c.amount))
	}
	return fmt.Sprintf("%s(%v)", c.name, bigOf(c.amount))
}

// names are those of all calls that can be refused.
func names() []string { return []string{"List", "Stop", "Deposit", "Pay", "Lock", "Free"} }

func (c call) inVault(v *Vault) api.Errno {
	switch c.name {
	case "List":
		return v.List(c.token)
	case "Stop":
		return v.Stop(c.token, c.stop)
	case "Deposit":
		return v.Deposit(c.token, c.amount)
	case "Pay":
		return v.Pay(c.index, c.token, c.amount)
	case "Lock":
		return v.Lock(c.amount)
	}
	return v.Free(c.amount)
}

func (c call) inWords(s *said) api.Errno {
	switch c.name {
	case "List":
		return s.list(c.token)
	case "Stop":
		return s.stop(c.token, c.stop)
	case "Deposit":
		return s.deposit(c.token, bigOf(c.amount))
	case "Pay":
		return s.pay(c.index, c.token, bigOf(c.amount))
	case "Lock":
		return s.lock(bigOf(c.amount))
	}
	return s.free(bigOf(c.amount))
}

// told is all that a vault tells of tokens, of indices that are asked for, and of bonds.
type told struct {
	listed, stopped []bool
	held            []api.Wide
	paid            []bool
	locked          api.Wide
}

// askedTokens are all that may be, and some beside them.
func askedTokens() []int {
	all := []int{math.MinInt, math.MinInt32, -64, -1, 64, 65, 127, 128, 256, 320, math.MaxInt32, math.MaxInt}
	for token := range 64 {
		all = append(all, token)
	}
	return all
}

// edgeIndices are those at which something could turn.
func edgeIndices() []int {
	return []int{math.MinInt, math.MinInt + 1, -1 << 40, -65, -64, -63, -2, -1, 0, 1, 2, 62, 63, 64, 65, 127, 128, 1<<31 - 1, 1 << 31, 1 << 32, 1<<32 + 1, 1<<38 - 1, 1<<40 - 65, 1<<40 - 64, 1<<40 - 2, 1<<40 - 1, 1 << 40, 1<<40 + 1, 1 << 46, math.MaxInt - 1, math.MaxInt}
}

func tellVault(v *Vault, indices []int) told {
	var all told
	for _, token := range askedTokens() {
		listed, stopped := v.Listed(token)
		all.listed, all.stopped = append(all.listed, listed), append(all.stopped, stopped)
		all.held = append(all.held, v.Held(token))
	}
	for _, index := range indices {
		all.paid = append(all.paid, v.Paid(index))
	}
	all.locked = v.Locked()
	return all
}

func tellWords(s *said, indices []int) told {
	var all told
	for _, token := range askedTokens() {
		listed, stopped := s.isListed(token)
		all.listed, all.stopped = append(all.listed, listed), append(all.stopped, stopped)
		all.held = append(all.held, s.heldOf(token))
	}
	for _, index := range indices {
		all.paid = append(all.paid, slices.Contains(s.paid, index))
	}
	all.locked = wideOf(s.locked)
	return all
}

// differ tells where two vaults tell something else; nothing, if they do not.
func (one told) differ(two told, indices []int) string {
	text := ""
	for i, token := range askedTokens() {
		if one.listed[i] != two.listed[i] || one.stopped[i] != two.stopped[i] {
			text += fmt.Sprintf("Listed(%d) is %v, %v, not %v, %v; ", token, one.listed[i], one.stopped[i], two.listed[i], two.stopped[i])
		}
		if one.held[i] != two.held[i] {
			text += fmt.Sprintf("Held(%d) is %v, not %v; ", token, bigOf(one.held[i]), bigOf(two.held[i]))
		}
	}
	for i, index := range indices {
		if one.paid[i] != two.paid[i] {
			text += fmt.Sprintf("Paid(%d) is %v; ", index, one.paid[i])
		}
	}
	if one.locked != two.locked {
		text += fmt.Sprintf("Locked is %v, not %v", bigOf(one.locked), bigOf(two.locked))
	}
	return text
}
