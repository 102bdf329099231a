package exec

import (
	"causeway/api"
	"causeway/ledger"
)

// host is what a program asks of the ledger while a letter is done.
type host struct {
	*desk
	number int
	home   api.Address
}

// Load tells what stands in a slot of the program's.
func (h host) Load(slot api.Wide) (api.Wide, api.Errno) {
	return askSlot(h.State, h.number, slot)
}

// Save lays another value there.
func (h host) Save(slot, value api.Wide) api.Errno {
	return laySlot(h.State, h.number, slot, value)
}

// Have tells what somebody has.
func (h host) Have(token int, who api.Address) (api.Wide, api.Errno) {
	return ledger.Balance(h.State, token, who)
}

// Send gives some of what the program has to another one.
func (h host) Send(token int, to api.Address, amount api.Wide) api.Errno {
	return ledger.Move(h.State, token, h.home, to, amount)
}
