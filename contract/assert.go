package contract

import (
	"causeway/api"
	"causeway/ladder"
	"causeway/witness"
)

func (c *Contract) post(now int, o api.Op) api.Result {
	said, e := ladder.Read(o.Body)
	if e != api.OK {
		return refused(e)
	}
	number, e := c.rungs.Post(said, o.By, c.box.Len(), now)
	if e != api.OK {
		return refused(e)
	}
	return api.Result{Code: c.vault.Lock(c.config.Bond), Number: number}
}

func (c *Contract) confirm(now int, _ api.Op) api.Result {
	stood, e := c.rungs.Confirm(now)
	if e != api.OK {
		return refused(e)
	}
	return c.free(stood.Number, c.bond(api.PayBond, stood.Poster, stood.Number))
}

func (c *Contract) challenge(now int, o api.Op) api.Result {
	said, before, e := c.find(o.Number)
	switch {
	case e != api.OK:
		return refused(e)
	case said.Commit.Count-before.Count > api.MaxReplay:
		return refused(api.ErrContractSpan)
	case now >= said.Deadline:
		return refused(api.ErrLadderLate)
	}
	behind, e := c.replay(before, said.Commit.Count, o.Body)
	switch {
	case e != api.OK:
		return refused(e)
	case behind == said.Commit:
		return refused(api.ErrContractHolds)
	}
	return c.fall(o.Number, o.By)
}

// find tells a pending assertion, and the commit that it goes on from.
func (c *Contract) find(number int) (api.Pending, api.Commit, api.Errno) {
	said, e := c.rungs.Find(number)
	if e != api.OK {
		return api.Pending{}, api.Commit{}, e
	}
	before, e := c.rungs.Before(number)
	return said, before, e
}

// replay does the inbox's entries from a commit on again, up to a count, by a witness: the commit behind them.
func (c *Contract) replay(before api.Commit, count int, body []byte) (api.Commit, api.Errno) {
	shown, e := witness.Read(body)
	if e != api.OK {
		return api.Commit{}, e
	}
	entries, e := c.box.Entries(before.Count, count)
	if e != api.OK {
		return api.Commit{}, e
	}
	return witness.Replay(before, shown, entries...)
}

// fall drops an assertion, whose bond is somebody's then, and all that are pending behind it, and ends the duels over them.
func (c *Contract) fall(number int, to api.Address) api.Result {
	dropped, e := c.rungs.Drop(number)
	if e != api.OK {
		return refused(e)
	}
	var pays []api.Pay
	for _, p := range dropped {
		if p.Number == number {
			pays = append(pays, c.bond(api.PayReward, to, p.Number))
		} else {
			pays = append(pays, c.bond(api.PayBond, p.Poster, p.Number))
		}
		for _, d := range c.fights.over(p.Number) {
			pays = append(pays, c.bond(api.PayBond, d.View().Challenger, p.Number))
		}
	}
	c.fights = c.fights.below(number)
	return c.free(number, pays...)
}

// bond is the pay by which a bond goes out.
func (c *Contract) bond(why int, to api.Address, number int) api.Pay {
	return api.Pay{Why: why, To: to, Amount: c.config.Bond, Index: number}
}

// free lets as many bonds go as are paid, and tells the assertion's number.
func (c *Contract) free(number int, pays ...api.Pay) api.Result {
	for range pays {
		if e := c.vault.Free(c.config.Bond); e != api.OK {
			return refused(e)
		}
	}
	return api.Result{Number: number, Pays: pays}
}
