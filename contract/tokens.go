package contract

import (
	"causeway/api"
	"causeway/outbox"
)

func (c *Contract) list(_ int, o api.Op) api.Result {
	if o.By != c.config.Owner {
		return refused(api.ErrContractOwner)
	}
	return api.Result{Code: c.vault.List(o.Token)}
}

func (c *Contract) stop(_ int, o api.Op) api.Result {
	if o.By != c.config.Owner {
		return refused(api.ErrContractOwner)
	}
	return api.Result{Code: c.vault.Stop(o.Token, o.Index == 1)}
}

func (c *Contract) deposit(now int, o api.Op) api.Result {
	if e := c.vault.Deposit(o.Token, o.Amount); e != api.OK {
		return refused(e)
	}
	return c.enter(api.Entry{Kind: api.EntryDeposit, Sender: o.By, Time: now, Token: o.Token, To: o.To, Amount: o.Amount, Gas: o.Gas})
}

func (c *Contract) send(now int, o api.Op) api.Result {
	return c.enter(api.Entry{Kind: api.EntryCall, Sender: o.By, Time: now, Body: o.Body})
}

// enter writes an entry down in the inbox, and tells its number.
func (c *Contract) enter(entry api.Entry) api.Result {
	number, e := c.box.Add(entry)
	return api.Result{Code: e, Number: number}
}

func (c *Contract) claim(_ int, o api.Op) api.Result {
	leaf, e := outbox.Read(o.Body)
	if e != api.OK {
		return refused(api.ErrContractLeaf)
	}
	confirmed := c.rungs.Confirmed()
	if outbox.Check(confirmed.Outbox, confirmed.Leaves, leaf, o.Path) != api.OK {
		return refused(api.ErrContractLeaf)
	}
	if e := c.vault.Pay(leaf.Index, leaf.Token, leaf.Amount); e != api.OK {
		return refused(e)
	}
	return api.Result{Pays: []api.Pay{{Why: api.PayLeaf, Token: leaf.Token, To: leaf.To, Amount: leaf.Amount, Index: leaf.Index}}}
}
