package ledger

import (
	"causeway/api"
	"causeway/store"
	"causeway/wide"
)

// What a key begins with.
const (
	tokenMark     = "t"
	balanceMark   = "b"
	allowanceMark = "l"
)

// A token's first byte.
const (
	runningByte = 1
	pausedByte  = 3
)

// page is a token's part of a state.
type page struct {
	state *store.State
	token byte
}

// line is an amount, and the key at which it stands or is to stand.
type line struct {
	key    string
	amount api.Wide
}

func open(s *store.State, token int) (page, api.Errno) {
	switch {
	case s == nil:
		return page{}, api.ErrArg
	case token < 0 || token >= api.MaxTokens:
		return page{}, api.ErrLedgerToken
	}
	return page{s, byte(token)}, api.OK
}

// ask opens a token's page, and asks for the token.
func ask(s *store.State, token int) (page, api.Token, api.Errno) {
	p, e := open(s, token)
	if e != api.OK {
		return page{}, api.Token{}, e
	}
	b, e := s.Get(p.key(tokenMark))
	if e != api.OK {
		return page{}, api.Token{}, e
	}
	t, e := readToken(b)
	return p, t, e
}

// readToken reads what stands at a token's key.
func readToken(b []byte) (api.Token, api.Errno) {
	if len(b) == 0 {
		return api.Token{}, api.OK
	}
	supply, e := wide.Read(b[1:])
	if e != api.OK {
		return api.Token{}, api.ErrStoreForm
	}
	t := api.Token{Supply: supply}
	switch b[0] {
	case runningByte:
		return running(t), api.OK
	case pausedByte:
		return paused(t), api.OK
	}
	return api.Token{}, api.ErrStoreForm
}

func running(t api.Token) api.Token {
	return api.Token{There: true, Supply: t.Supply}
}

func paused(t api.Token) api.Token {
	return api.Token{There: true, Paused: true, Supply: t.Supply}
}

func (p page) layToken(t api.Token) api.Errno {
	first := byte(runningByte)
	if t.Paused {
		first = pausedByte
	}
	return p.state.Put(p.key(tokenMark), append([]byte{first}, wide.Bytes(t.Supply)...))
}

// amount asks for a balance or an allowance.
func (p page) amount(key string) (api.Wide, api.Errno) {
	b, e := p.state.Get(key)
	if e != api.OK || len(b) == 0 {
		return api.Wide{}, e
	}
	a, e := wide.Read(b)
	if e != api.OK || wide.IsZero(a) {
		return api.Wide{}, api.ErrStoreForm
	}
	return a, api.OK
}

// greater asks for a balance that is to grow.
func (p page) greater(key string, by api.Wide) (line, api.Errno) {
	a, e := p.amount(key)
	if e != api.OK {
		return line{}, e
	}
	sum, e := wide.Add(a, by)
	if e != api.OK {
		return line{}, api.ErrStoreForm // no ledger lets the balances be more than the supply
	}
	return line{key, sum}, api.OK
}

// less asks for an amount that is to shrink; the refusal is for one that is too small.
func (p page) less(key string, by api.Wide, refusal api.Errno) (line, api.Errno) {
	a, e := p.amount(key)
	if e != api.OK {
		return line{}, e
	}
	rest, e := wide.Sub(a, by)
	if e != api.OK {
		return line{}, refusal
	}
	return line{key, rest}, api.OK
}

// layLines lays amounts in their order. One that was asked for ahead of this is never refused, so what is laid is laid whole.
func (p page) layLines(lines ...line) api.Errno {
	for _, l := range lines {
		if e := p.state.Put(l.key, laid(l.amount)); e != api.OK {
			return e
		}
	}
	return api.OK
}

// laid are the bytes of an amount: none for nought, so that nothing stands there.
func laid(a api.Wide) []byte {
	if wide.IsZero(a) {
		return nil
	}
	return wide.Bytes(a)
}

func (p page) balanceKey(who api.Address) string {
	return p.key(balanceMark, who)
}

func (p page) allowanceKey(owner, spender api.Address) string {
	return p.key(allowanceMark, owner, spender)
}

// key is a mark, the token, and whose it is.
func (p page) key(mark string, whose ...api.Address) string {
	b := append([]byte(mark), p.token)
	for _, who := range whose {
		b = append(b, who[:]...)
	}
	return string(b)
}
