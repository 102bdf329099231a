package contract

import (
	"bytes"
	"cmp"
	"slices"

	"causeway/api"
	"causeway/duel"
)

// fights are the open duels, by rising numbers, and of one number by rising challengers. What stands in a list never changes, and neither does a duel that stands there: contracts share them with their copies, and another list takes its place.
type fights []*duel.Duel

// place tells where the duel of a number and an address stands, or would stand, and whether there is one.
func (f fights) place(number int, who api.Address) (int, bool) {
	return slices.BinarySearchFunc(f, who, func(d *duel.Duel, who api.Address) int {
		v := d.View()
		return cmp.Or(cmp.Compare(v.Number, number), bytes.Compare(v.Challenger[:], who[:]))
	})
}

// find is the duel of a number and an address; a copy, so that it can be moved.
func (f fights) find(number int, who api.Address) (*duel.Duel, api.Errno) {
	i, found := f.place(number, who)
	if !found {
		return nil, api.ErrContractDuel
	}
	return f[i].Copy(), api.OK
}

// with is the list with one duel more, or with a duel as it stands now.
func (f fights) with(d *duel.Duel) fights {
	v := d.View()
	i, found := f.place(v.Number, v.Challenger)
	behind := i
	if found {
		behind++
	}
	return slices.Concat(f[:i], fights{d}, f[behind:])
}

// without is the list without the duel of a number and an address.
func (f fights) without(number int, who api.Address) fights {
	i, found := f.place(number, who)
	if !found {
		return f
	}
	return slices.Concat(f[:i], f[i+1:])
}

// from tells where the duels over an assertion and those behind it begin. (No address is below noughts.)
func (f fights) from(number int) int {
	i, _ := f.place(number, api.Address{})
	return i
}

// over are the duels over an assertion.
func (f fights) over(number int) fights {
	return f[f.from(number):f.from(number+1)]
}

// below are those over assertions ahead of one.
func (f fights) below(number int) fights {
	return slices.Clone(f[:f.from(number)])
}

// views tells how each stands.
func (f fights) views() []api.Duel {
	var list []api.Duel
	for _, d := range f {
		list = append(list, d.View())
	}
	return list
}
