package escrow

import (
	"causeway/api"
	"causeway/wide"
)

// Lock takes a bond in.
func (v *Vault) Lock(amount api.Wide) api.Errno {
	if v == nil {
		return api.ErrArg
	}
	locked, e := wide.Add(v.locked, amount)
	if e != api.OK {
		return api.ErrEscrowOver
	}
	v.locked = locked
	return api.OK
}

// Free gives a bond out.
func (v *Vault) Free(amount api.Wide) api.Errno {
	if v == nil {
		return api.ErrArg
	}
	locked, e := wide.Sub(v.locked, amount)
	if e != api.OK {
		return api.ErrEscrowBond
	}
	v.locked = locked
	return api.OK
}

// Locked tells how much is locked.
func (v *Vault) Locked() api.Wide {
	if v == nil {
		return api.Wide{}
	}
	return v.locked
}
