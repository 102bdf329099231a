package sparse

import "causeway/api"

// A part's mark in a proof.
const (
	markNone  = iota // no key
	markAsked        // one key, which is asked
	markOther        // one key, which is not
	markMany
)

// A byte of Marks holds four, the first one in its highest bits.
const (
	markBits     = 2
	marksOfAByte = 8 / markBits
	oneMark      = 1<<markBits - 1
)

// shiftOf is how far the mark of a number stands from the lowest bits of its byte.
func shiftOf(number int) int {
	return 8 - markBits*(number%marksOfAByte+1)
}

// Prove tells what is beside some keys.
func (m *Map) Prove(keys ...api.Digest) (api.Proof, api.Errno) {
	if m == nil {
		return api.Proof{}, api.ErrArg
	}
	asked := make([]api.Bound, len(keys))
	for i, key := range keys {
		asked[i].Key = key
	}
	if !rise(asked) {
		return api.Proof{}, api.ErrSparseKeys
	}
	var t teller
	t.tell(m.top, asked, 0)
	return t.proof, api.OK
}

// teller makes a proof, part by part.
type teller struct {
	proof api.Proof
	marks int // so many are told
}

// tell tells a part of so many bits; what is asked are the keys that lie in it.
func (t *teller) tell(n *node, asked []api.Bound, bits int) {
	switch {
	case n == nil:
		t.mark(markNone)
	case n.count == 1 && has(asked, n.one.Key):
		t.mark(markAsked)
	case n.count == 1:
		t.mark(markOther, n.one.Key, n.one.Value)
	case len(asked) == 0:
		t.mark(markMany, n.left.digest(), n.right.digest())
	default:
		t.mark(markMany)
		left := inLeft(asked, bits)
		t.tell(n.left, asked[:left], bits+1)
		t.tell(n.right, asked[left:], bits+1)
	}
}

// mark tells a mark and what stands beside it.
func (t *teller) mark(mark byte, beside ...api.Digest) {
	if t.marks%marksOfAByte == 0 {
		t.proof.Marks = append(t.proof.Marks, 0)
	}
	t.proof.Marks[t.marks/marksOfAByte] |= mark << shiftOf(t.marks)
	t.marks++
	t.proof.Sides = append(t.proof.Sides, beside...)
}
