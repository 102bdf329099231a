package escrow

import (
	"causeway/api"
	"causeway/wide"
)

// Pay pays a withdrawal, once an index.
func (v *Vault) Pay(index, token int, amount api.Wide) api.Errno {
	switch {
	case v == nil:
		return api.ErrArg
	case index < 0 || index >= api.MaxCount:
		return api.ErrEscrowIndex
	}
	h, e := v.find(token)
	switch {
	case e != api.OK:
		return e
	case v.paid.has(index):
		return api.ErrEscrowPaid
	}
	h.held, e = wide.Sub(h.held, amount)
	if e != api.OK {
		return api.ErrEscrowFunds
	}
	v.lay(token, h)
	v.paid.put(index)
	return api.OK
}

// Paid tells whether an index was paid.
func (v *Vault) Paid(index int) bool {
	// An index that may not be was never put there.
	return v != nil && v.paid.has(index)
}
