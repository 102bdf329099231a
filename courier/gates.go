package courier

import "causeway/api"

// gate tells why a leaf is not let through; OK, if it is.
type gate func(w *way, index int) api.Errno

// gates are what a leaf must pass, one after the other, ahead of its claim. The list holds functions, so it is made anew for each leaf.
func gates() []gate {
	return []gate{
		only((*way).isUnpaid, api.ErrCourierPaid),
		only((*way).isThere, api.ErrCourierLeaf),
		only((*way).isConfirmed, api.ErrCourierEarly),
		only((*way).leads, api.ErrCourierNode),
	}
}

// only is the gate that lets those leaves through of which something holds.
func only(holds func(*way, int) bool, refusal api.Errno) gate {
	return func(w *way, index int) api.Errno {
		if holds(w, index) {
			return api.OK
		}
		return refusal
	}
}

// pass lets a leaf go through all gates, up to the first one that refuses it.
func (w *way) pass(index int) api.Errno {
	for _, ask := range gates() {
		if e := ask(w, index); e != api.OK {
			return e
		}
	}
	return api.OK
}
