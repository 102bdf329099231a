package contract

import "causeway/api"

const (
	lastToken = api.MaxTokens - 1
	maxPath   = 64 // digests
)

// uses is what a kind of operation uses: of a number the greatest that it may be, of bytes and a path how many at most. Nought says that the kind does not use the field: then the operation has nought there, too.
type uses struct {
	token  int
	to     bool
	amount bool
	gas    int
	number int
	index  int
	body   int
	path   int
}

// fit tells whether all fields of an operation may be what they are.
func (u uses) fit(o api.Op) bool {
	return within(o.Token, 0, u.token) &&
		(u.to || o.To == api.Address{}) &&
		(u.amount || o.Amount == api.Wide{}) &&
		within(o.Gas, 0, u.gas) &&
		within(o.Number, min(1, u.number), u.number) && // assertions are numbered from 1 on
		within(o.Index, 0, u.index) &&
		len(o.Body) <= u.body &&
		len(o.Path) <= u.path
}

// row is what all operations of one kind have in common.
type row struct {
	uses uses
	do   func(*Contract, int, api.Op) api.Result
}

// table has a row for each kind, at its number. It holds functions, so it is made anew for each call.
func table() []row {
	return []row{
		api.OpList:      {uses{token: lastToken}, (*Contract).list},
		api.OpStop:      {uses{token: lastToken, index: 1}, (*Contract).stop},
		api.OpDeposit:   {uses{token: lastToken, to: true, amount: true, gas: api.MaxCount}, (*Contract).deposit},
		api.OpSend:      {uses{body: api.MaxBody}, (*Contract).send},
		api.OpPost:      {uses{body: api.MaxWitness}, (*Contract).post},
		api.OpConfirm:   {uses{}, (*Contract).confirm},
		api.OpChallenge: {uses{number: api.MaxCount, body: api.MaxWitness}, (*Contract).challenge},
		api.OpDuel:      {uses{number: api.MaxCount}, (*Contract).open},
		api.OpSplit:     {uses{number: api.MaxCount, to: true, body: api.MaxWitness}, (*Contract).split},
		api.OpPick:      {uses{number: api.MaxCount, index: 1}, (*Contract).pick},
		api.OpProve:     {uses{number: api.MaxCount, body: api.MaxWitness}, (*Contract).prove},
		api.OpExpire:    {uses{number: api.MaxCount, to: true}, (*Contract).expire},
		api.OpClaim:     {uses{body: api.MaxWitness, path: maxPath}, (*Contract).claim},
	}
}

// Check tells whether values may be an operation.
func Check(o api.Op) api.Errno {
	rows := table()
	if !within(o.Kind, 1, len(rows)-1) || !rows[o.Kind].uses.fit(o) {
		return api.ErrContractOp
	}
	return api.OK
}
