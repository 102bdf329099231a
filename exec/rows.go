package exec

import (
	"causeway/api"
	"causeway/ledger"
	"causeway/letter"
	"causeway/machine"
	"causeway/store"
	"causeway/ticket"
)

// What an entry asks: a deposit, bytes that are no letter, or a letter, of each kind a type of its own.
type (
	deposit  api.Entry
	noLetter struct{}

	moveLetter   api.Letter
	burnLetter   api.Letter
	allowLetter  api.Letter
	pullLetter   api.Letter
	retryLetter  api.Letter
	cancelLetter api.Letter
	tokenLetter  api.Letter
	pauseLetter  api.Letter
	resumeLetter api.Letter
	codeLetter   api.Letter
	callLetter   api.Letter
	manyLetter   []any // its parts
)

// inside is what an entry that may be asks.
func inside(e api.Entry) any {
	if e.Kind == api.EntryDeposit {
		return deposit(e)
	}
	l, fault := letter.Read(e.Body)
	if fault != api.OK {
		return noLetter{}
	}
	return insideLetter(l)
}

// insideLetter is what a letter that may be asks.
func insideLetter(l api.Letter) any {
	switch l.Kind {
	case api.LetterMove:
		return moveLetter(l)
	case api.LetterBurn:
		return burnLetter(l)
	case api.LetterAllow:
		return allowLetter(l)
	case api.LetterPull:
		return pullLetter(l)
	case api.LetterRetry:
		return retryLetter(l)
	case api.LetterCancel:
		return cancelLetter(l)
	case api.LetterToken:
		return tokenLetter(l)
	case api.LetterPause:
		return pauseLetter(l)
	case api.LetterResume:
		return resumeLetter(l)
	case api.LetterCode:
		return codeLetter(l)
	case api.LetterCall:
		return callLetter(l)
	case api.LetterMany:
		return insideParts(l.Parts)
	}
	return noLetter{}
}

func insideParts(parts []api.Letter) manyLetter {
	var all manyLetter
	for _, part := range parts {
		all = append(all, insideLetter(part))
	}
	return all
}

// do does a letter by its row, up to the first error. It answers what the letter tells; beside an error only which part was refused.
func (d *desk) do(asked any) (api.Receipt, api.Errno) {
	switch x := asked.(type) {
	case moveLetter:
		return api.Receipt{}, ledger.Move(d.State, x.Token, d.caller, x.To, x.Amount)
	case burnLetter:
		return api.Receipt{}, d.burn(x)
	case allowLetter:
		return api.Receipt{}, ledger.Allow(d.State, x.Token, d.caller, x.To, x.Amount)
	case pullLetter:
		return api.Receipt{}, ledger.Pull(d.State, x.Token, d.caller, x.From, x.To, x.Amount)
	case retryLetter:
		return api.Receipt{}, ticket.Retry(d.State, x.Number)
	case cancelLetter:
		return api.Receipt{}, d.cancel(x)
	case tokenLetter:
		return api.Receipt{}, d.govern(ledger.Register, x.Token)
	case pauseLetter:
		return api.Receipt{}, d.govern(ledger.Pause, x.Token)
	case resumeLetter:
		return api.Receipt{}, d.govern(ledger.Resume, x.Token)
	case codeLetter:
		return d.code(x)
	case callLetter:
		return d.call(x)
	case manyLetter:
		return d.many(x)
	}
	return api.Receipt{}, api.ErrExecLetter
}

func (d *desk) burn(x burnLetter) api.Errno {
	if e := ledger.Burn(d.State, x.Token, d.caller, x.Amount); e != api.OK {
		return e
	}
	return d.leave(x.Token, x.To, x.Amount)
}

func (d *desk) cancel(x cancelLetter) api.Errno {
	t, e := ticket.Cancel(d.State, x.Number, d.caller)
	if e != api.OK {
		return e
	}
	return d.leave(t.Token, t.Sender, t.Amount)
}

// govern does what the admin alone may ask of a token.
func (d *desk) govern(do func(*store.State, int) api.Errno, token int) api.Errno {
	admin, e := askAdmin(d.State)
	switch {
	case e != api.OK:
		return e
	case admin != d.caller:
		return api.ErrExecAdmin
	}
	return do(d.State, token)
}

func (d *desk) code(x codeLetter) (api.Receipt, api.Errno) {
	if e := machine.Check(x.Code); e != api.OK {
		return api.Receipt{}, e
	}
	made, e := askNumber(d.State, programsKey)
	switch {
	case e != api.OK:
		return api.Receipt{}, e
	case made == api.MaxCount:
		return api.Receipt{}, api.ErrExecFull
	}
	next := made + 1
	if e := d.Put(programKey(next), x.Code); e != api.OK {
		return api.Receipt{}, e
	}
	if e := layNumber(d.State, programsKey, next); e != api.OK {
		return api.Receipt{}, e
	}
	return api.Receipt{Number: next}, api.OK
}

func (d *desk) call(x callLetter) (api.Receipt, api.Errno) {
	code, e := askProgram(d.State, x.Number)
	if e != api.OK {
		return api.Receipt{}, e
	}
	home, e := Home(x.Number)
	if e != api.OK {
		return api.Receipt{}, e
	}
	if x.Amount != (api.Wide{}) {
		if e := ledger.Move(d.State, x.Token, d.caller, home, x.Amount); e != api.OK {
			return api.Receipt{}, e
		}
	}
	ran, e := machine.Run(code, api.Call{
		Self: home, Caller: d.caller, Token: x.Token, Amount: x.Amount, Args: x.Args, Time: d.time, Gas: x.Gas,
	}, host{d, x.Number, home})
	return api.Receipt{Value: ran.Value, Gas: ran.Gas}, e
}

// many does part after part; what its codes and calls tell, it tells.
func (d *desk) many(parts manyLetter) (api.Receipt, api.Errno) {
	var all api.Receipt
	for i, part := range parts {
		told, e := d.do(part)
		if e != api.OK {
			return api.Receipt{Part: i + 1}, e
		}
		switch part.(type) {
		case codeLetter:
			all.Number = told.Number
		case callLetter:
			all.Value = told.Value
			all.Gas += told.Gas
		}
	}
	return all, api.OK
}
