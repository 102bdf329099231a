package ledger

import (
	"maps"
	"math/big"
	"slices"

	"causeway/api"
	"causeway/store"
)

// The second reckoning: a shelf is what a source has and what was laid over it, as texts; each row of the chapter's table is a list of steps, up to the first error; amounts are the library's. Numbers and limits are written out, not taken from api.

// shelf is what a state is by the words.
type shelf struct {
	has     map[string]string    // what the source has
	refuses map[string]api.Errno // where it refuses
	now     map[string]string    // of each key that was told: what stands there
	asked   []string             // what the source was asked
}

func newShelf(has map[string]string, refuses map[string]api.Errno) *shelf {
	return &shelf{has: has, refuses: refuses, now: map[string]string{}}
}

func (x *shelf) get(key string) (string, api.Errno) {
	if value, told := x.now[key]; told {
		return value, 0
	}
	x.asked = append(x.asked, key)
	if e := x.refuses[key]; e != 0 {
		return "", e
	}
	if len(x.has[key]) > 4096 {
		return "", 71
	}
	x.now[key] = x.has[key]
	return x.now[key], 0
}

func (x *shelf) put(key, value string) api.Errno {
	if _, e := x.get(key); e != 0 {
		return e
	}
	x.now[key] = value
	return 0
}

func (x *shelf) touched() []string { return slices.Sorted(maps.Keys(x.now)) }

func (x *shelf) changes() map[string][2]string {
	all := map[string][2]string{}
	for key, value := range x.now {
		if x.has[key] != value {
			all[key] = [2]string{x.has[key], value}
		}
	}
	return all
}

func tokenKey(token int) string { return "t" + string([]byte{byte(token)}) }

func balanceKey(token int, who api.Address) string {
	return "b" + string([]byte{byte(token)}) + string(who[:])
}

func allowanceKey(token int, owner, spender api.Address) string {
	return "l" + string([]byte{byte(token)}) + string(owner[:]) + string(spender[:])
}

func bigOf(a api.Wide) *big.Int {
	n := new(big.Int)
	for i := 3; i >= 0; i-- {
		n.Lsh(n, 64).Or(n, new(big.Int).SetUint64(a[i]))
	}
	return n
}

func wideOf(n *big.Int) api.Wide {
	var a api.Wide
	for i := range a {
		a[i] = new(big.Int).Rsh(n, uint(64*i)).Uint64()
	}
	return a
}

// inBytes is a number in 32 bytes.
func inBytes(n *big.Int) string { return string(n.FillBytes(make([]byte, 32))) }

// row is a call under way.
type row struct {
	x                       *shelf
	call                    call
	amount                  *big.Int
	there, paused           bool
	supply                  *big.Int
	spender, from, to       api.Address
	allowed, hasFrom, hasTo *big.Int
}

type way func() api.Errno

// inOrder does steps up to the first error.
func inOrder(ways ...way) api.Errno {
	for _, w := range ways {
		if e := w(); e != 0 {
			return e
		}
	}
	return 0
}

// refuse is a step that refuses.
func refuse(when func() bool, e api.Errno) way {
	return func() api.Errno {
		if when() {
			return e
		}
		return 0
	}
}

// when is steps that are done in one case alone.
func when(is func() bool, ways ...way) way {
	return func() api.Errno {
		if !is() {
			return 0
		}
		return inOrder(ways...)
	}
}

func (r *row) askToken() api.Errno {
	value, e := r.x.get(tokenKey(r.call.token))
	if e != 0 {
		return e
	}
	r.supply = new(big.Int)
	if value == "" {
		return 0
	}
	if len(value) != 33 || value[0] != 1 && value[0] != 3 {
		return 75
	}
	r.there, r.paused = true, value[0] == 3
	r.supply.SetBytes([]byte(value[1:]))
	return 0
}

func (r *row) askAmount(key string) (*big.Int, api.Errno) {
	value, e := r.x.get(key)
	if e != 0 {
		return nil, e
	}
	n := new(big.Int).SetBytes([]byte(value))
	if value != "" && (len(value) != 32 || n.Sign() == 0) {
		return nil, 75
	}
	return n, 0
}

func (r *row) askFrom() (e api.Errno) {
	r.hasFrom, e = r.askAmount(balanceKey(r.call.token, r.from))
	return e
}

func (r *row) askTo() (e api.Errno) {
	r.hasTo, e = r.askAmount(balanceKey(r.call.token, r.to))
	return e
}

func (r *row) askAllowance() (e api.Errno) {
	r.allowed, e = r.askAmount(allowanceKey(r.call.token, r.from, r.spender))
	return e
}

func (r *row) layToken(paused bool, supply *big.Int) api.Errno {
	first := "\x01"
	if paused {
		first = "\x03"
	}
	return r.x.put(tokenKey(r.call.token), first+inBytes(supply))
}

func (r *row) layAmount(key string, n *big.Int) api.Errno {
	if n.Sign() == 0 {
		return r.x.put(key, "")
	}
	return r.x.put(key, inBytes(n))
}

func (r *row) laySupply(by *big.Int) way {
	return func() api.Errno { return r.layToken(r.paused, plus(r.supply, by)) }
}

func (r *row) layFrom() api.Errno {
	return r.layAmount(balanceKey(r.call.token, r.from), new(big.Int).Sub(r.hasFrom, r.amount))
}

func (r *row) layTo() api.Errno {
	return r.layAmount(balanceKey(r.call.token, r.to), plus(r.hasTo, r.amount))
}

func (r *row) layAllowance() api.Errno {
	return r.layAmount(allowanceKey(r.call.token, r.from, r.spender), new(big.Int).Sub(r.allowed, r.amount))
}

func plus(a, b *big.Int) *big.Int { return new(big.Int).Add(a, b) }

// tooGreat tells whether two are 2^256 or more together.
func tooGreat(a, b *big.Int) bool { return plus(a, b).BitLen() > 256 }

func (r *row) none() bool    { return !r.there }
func (r *row) isThere() bool { return r.there }
func (r *row) rests() bool   { return r.paused }
func (r *row) runs() bool    { return !r.paused }
func (r *row) some() bool    { return r.amount.Sign() != 0 }

// overTo: the receiver would have too much.
func (r *row) overTo() bool { return r.from != r.to && tooGreat(r.hasTo, r.amount) }

// turns are the steps with which each call that turns balances begins.
func (r *row) turns() way {
	return func() api.Errno {
		return inOrder(r.askToken, refuse(r.none, 81), refuse(r.rests, 83))
	}
}

// moves are the steps of Move behind its token.
func (r *row) moves(ahead way) way {
	return func() api.Errno {
		return inOrder(
			r.askFrom,
			refuse(func() bool { return r.hasFrom.Cmp(r.amount) < 0 }, 85),
			r.askTo,
			refuse(r.overTo, 75),
			when(r.some, ahead),
			when(func() bool { return r.some() && r.from != r.to }, r.layFrom, r.layTo),
		)
	}
}

func (r *row) nothing() api.Errno { return 0 }

func (r *row) steps() api.Errno {
	minus := new(big.Int).Neg(r.amount)
	switch r.call.name {
	case "Token":
		return r.askToken()
	case "Register":
		return inOrder(r.askToken, refuse(r.isThere, 82), func() api.Errno { return r.layToken(false, new(big.Int)) })
	case "Pause":
		return inOrder(r.turns(), func() api.Errno { return r.layToken(true, r.supply) })
	case "Resume":
		return inOrder(r.askToken, refuse(r.none, 81), refuse(r.runs, 84), func() api.Errno { return r.layToken(false, r.supply) })
	case "Balance":
		return r.askFrom()
	case "Allowed":
		return r.askAllowance()
	case "Mint":
		return inOrder(r.turns(), refuse(func() bool { return tooGreat(r.supply, r.amount) }, 87),
			r.askTo, refuse(func() bool { return tooGreat(r.hasTo, r.amount) }, 75),
			when(r.some, r.laySupply(r.amount), r.layTo))
	case "Burn":
		return inOrder(r.turns(), r.askFrom, refuse(func() bool { return r.hasFrom.Cmp(r.amount) < 0 }, 85),
			refuse(func() bool { return r.supply.Cmp(r.amount) < 0 }, 75),
			when(r.some, func() api.Errno { return r.laySupply(minus)() }, r.layFrom))
	case "Move":
		return inOrder(r.turns(), r.moves(r.nothing))
	case "Allow":
		return inOrder(r.askToken, refuse(r.none, 81), func() api.Errno {
			return r.layAmount(allowanceKey(r.call.token, r.from, r.spender), r.amount)
		})
	}
	return inOrder(r.turns(), r.askAllowance,
		refuse(func() bool { return r.allowed.Cmp(r.amount) < 0 }, 86), r.moves(r.layAllowance))
}

// call is one of the chapter's, with its arguments: whose are the addresses in the order in which the call takes them.
type call struct {
	name   string
	token  int
	whose  [3]api.Address
	amount api.Wide
}

// answer is what a call answers; what it does not tell is zero.
type answer struct {
	token  api.Token
	amount api.Wide
	code   api.Errno
}

// names are the calls, in the order of the chapter.
func names() []string {
	return []string{"Token", "Register", "Pause", "Resume", "Balance", "Allowed", "Mint", "Burn", "Move", "Allow", "Pull"}
}

// say is what the words answer, and what becomes of a shelf.
func (c call) say(x *shelf) answer {
	if c.token < 0 || c.token > 63 {
		return answer{code: 80}
	}
	r := &row{x: x, call: c, amount: bigOf(c.amount)}
	switch c.name {
	case "Balance", "Burn":
		r.from = c.whose[0]
	case "Mint":
		r.to = c.whose[0]
	case "Move":
		r.from, r.to = c.whose[0], c.whose[1]
	case "Allowed", "Allow":
		r.from, r.spender = c.whose[0], c.whose[1]
	case "Pull":
		r.spender, r.from, r.to = c.whose[0], c.whose[1], c.whose[2]
	}
	e := r.steps()
	told := answer{code: e}
	switch {
	case e != 0:
	case c.name == "Token":
		told.token = api.Token{There: r.there, Paused: r.paused, Supply: wideOf(r.supply)}
	case c.name == "Balance":
		told.amount = wideOf(r.hasFrom)
	case c.name == "Allowed":
		told.amount = wideOf(r.allowed)
	}
	return told
}

// do is what the package answers.
func (c call) do(s *store.State) (told answer) {
	switch c.name {
	case "Token":
		told.token, told.code = Token(s, c.token)
	case "Register":
		told.code = Register(s, c.token)
	case "Pause":
		told.code = Pause(s, c.token)
	case "Resume":
		told.code = Resume(s, c.token)
	case "Balance":
		told.amount, told.code = Balance(s, c.token, c.whose[0])
	case "Allowed":
		told.amount, told.code = Allowed(s, c.token, c.whose[0], c.whose[1])
	case "Mint":
		told.code = Mint(s, c.token, c.whose[0], c.amount)
	case "Burn":
		told.code = Burn(s, c.token, c.whose[0], c.amount)
	case "Move":
		told.code = Move(s, c.token, c.whose[0], c.whose[1], c.amount)
	case "Allow":
		told.code = Allow(s, c.token, c.whose[0], c.whose[1], c.amount)
	case "Pull":
		told.code = Pull(s, c.token, c.whose[0], c.whose[1], c.whose[2], c.amount)
	}
	return told
}
