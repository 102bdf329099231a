package contract

import (
	"causeway/api"
	"causeway/duel"
	"causeway/ladder"
	"causeway/witness"
)

func (c *Contract) open(now int, o api.Op) api.Result {
	said, before, e := c.find(o.Number)
	switch {
	case e != api.OK:
		return refused(e)
	case said.Commit.Count-before.Count < 2:
		return refused(api.ErrDuelSpan)
	case now >= said.Deadline:
		return refused(api.ErrLadderLate)
	case o.By == said.Poster:
		return refused(api.ErrDuelWho)
	}
	if _, there := c.fights.place(o.Number, o.By); there {
		return refused(api.ErrContractDuel)
	}
	d, e := duel.Open(o.Number, before, said.Commit, o.By, said.Poster, c.config.Turn, now)
	if e != api.OK {
		return refused(e)
	}
	if e := c.rungs.Hold(o.Number, now); e != api.OK {
		return refused(e)
	}
	c.fights = c.fights.with(d)
	return api.Result{Code: c.vault.Lock(c.config.Bond), Number: o.Number}
}

func (c *Contract) split(now int, o api.Op) api.Result {
	d, e := c.fights.find(o.Number, o.To)
	if e != api.OK {
		return refused(e)
	}
	middle, e := ladder.Read(o.Body)
	if e != api.OK {
		return refused(e)
	}
	return c.moved(d, d.Split(o.By, middle, now))
}

func (c *Contract) pick(now int, o api.Op) api.Result {
	d, e := c.fights.find(o.Number, o.By)
	if e != api.OK {
		return refused(e)
	}
	return c.moved(d, d.Pick(o.By, o.Index == 1, now))
}

// moved lets a duel stand as it does behind a move, if that was done.
func (c *Contract) moved(d *duel.Duel, e api.Errno) api.Result {
	if e != api.OK {
		return refused(e)
	}
	c.fights = c.fights.with(d)
	return api.Result{Number: d.View().Number}
}

func (c *Contract) prove(now int, o api.Op) api.Result {
	d, e := c.fights.find(o.Number, o.By)
	if e != api.OK {
		return refused(e)
	}
	shown, e := witness.Read(o.Body)
	if e != api.OK {
		return refused(e)
	}
	entry, e := c.box.Entry(d.View().Low.Count)
	if e != api.OK {
		return refused(e)
	}
	if e := d.Prove(o.By, shown, now, entry); e != api.OK {
		return refused(e)
	}
	return c.fall(o.Number, o.By)
}

func (c *Contract) expire(now int, o api.Op) api.Result {
	d, e := c.fights.find(o.Number, o.To)
	if e != api.OK {
		return refused(e)
	}
	if e := d.Expire(now); e != api.OK {
		return refused(e)
	}
	ended := d.View()
	if ended.State == api.DuelWon {
		return c.fall(o.Number, o.To)
	}
	if e := c.rungs.Release(o.Number); e != api.OK {
		return refused(e)
	}
	c.fights = c.fights.without(o.Number, o.To)
	return c.free(o.Number, c.bond(api.PayReward, ended.Defender, o.Number))
}
