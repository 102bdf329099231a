package exec

import (
	"causeway/api"
	"causeway/ledger"
	"causeway/outbox"
	"causeway/store"
	"causeway/ticket"
)

// below is the state that was handed in, as a source. It tells the layers' own errors from those of the state, which may have any number, and asks nothing more once the state has told one.
type below struct {
	state *store.State
	fault api.Errno // the state's first error
}

// Find tells what the state has.
func (b *below) Find(key string) ([]byte, api.Errno) {
	if b.fault != api.OK {
		return nil, b.fault
	}
	value, e := b.state.Get(key)
	b.fault = e
	return value, e
}

// desk is what every letter of an entry is done with. Its steps are its own: the state that was handed in gets no mark, and nothing is laid there till all is done.
type desk struct {
	*store.State
	below  *below
	index  int
	caller api.Address
	time   int
	leaves []api.Leaf
}

func newDesk(s *store.State, index int, e api.Entry) *desk {
	under := &below{state: s}
	own, _ := store.Over(under) // never refused: it is not nil
	return &desk{State: own, below: under, index: index, caller: e.Sender, time: e.Time}
}

// handOn lays what was done in the state that was handed in. That has told of each of these keys what its source has, so it refuses none.
func (d *desk) handOn(s *store.State) {
	for _, c := range d.Changes() {
		s.Put(c.Key, c.New)
	}
}

// execute does the next entry, and counts it.
func (d *desk) execute(asked any) (api.Receipt, api.Errno) {
	count, e := askNumber(d.State, countKey)
	switch {
	case e != api.OK:
		return api.Receipt{}, e
	case d.index != count:
		return api.Receipt{}, api.ErrExecIndex
	case count == api.MaxCount:
		return api.Receipt{}, api.ErrExecFull
	}
	receipt, e := d.entry(asked)
	if e != api.OK {
		return api.Receipt{}, e
	}
	return receipt, layNumber(d.State, countKey, count+1)
}

// entry does what an entry asks; an error refuses the entry as a whole.
func (d *desk) entry(asked any) (api.Receipt, api.Errno) {
	switch x := asked.(type) {
	case deposit:
		return d.deposit(x)
	case noLetter:
		return api.Receipt{Code: api.ErrExecLetter}, api.OK
	}
	return d.letter(asked)
}

func (d *desk) deposit(x deposit) (api.Receipt, api.Errno) {
	if x.Gas >= api.DepositGas {
		e := ledger.Mint(d.State, x.Token, x.To, x.Amount)
		if fault := d.faultIn(e); fault != api.OK || e == api.OK {
			return api.Receipt{}, fault
		}
	}
	number, e := ticket.Open(d.State, api.Ticket{Entry: d.index, Sender: x.Sender, Token: x.Token, To: x.To, Amount: x.Amount})
	if e != api.OK {
		return api.Receipt{}, e
	}
	return api.Receipt{Code: api.ErrExecTicket, Number: number}, api.OK
}

// letter does a letter, all of it or nothing.
func (d *desk) letter(asked any) (receipt api.Receipt, fault api.Errno) {
	mark := d.Mark()
	defer func() {
		if fault != api.OK || receipt.Code != api.OK {
			d.Back(mark)
			d.leaves = nil
		}
	}()
	told, e := d.do(asked)
	if fault := d.faultIn(e); fault != api.OK {
		return api.Receipt{}, fault
	}
	told.Code = e
	if e == api.OK && len(d.leaves) > 0 {
		told.First, told.Leaves = d.leaves[0].Index, len(d.leaves)
	}
	return told, api.OK
}

// faultIn tells by which error the entry is refused as a whole, when a layer has answered e: api.OK, if e is for the receipt.
func (d *desk) faultIn(e api.Errno) api.Errno {
	switch {
	case d.below.fault != api.OK:
		return d.below.fault
	case e == api.ErrStoreForm:
		return e
	}
	return api.OK
}

// leave adds a leaf of this entry to the outbox.
func (d *desk) leave(token int, to api.Address, amount api.Wide) api.Errno {
	l := api.Leaf{Entry: d.index, Token: token, To: to, Amount: amount}
	index, e := outbox.Add(d.State, l)
	if e != api.OK {
		return e
	}
	l.Index = index
	d.leaves = append(d.leaves, l)
	return api.OK
}
