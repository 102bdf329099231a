package sparse

import (
	"slices"

	"causeway/api"
)

const keyBits = 256

// Open takes a root, what it has at some keys, and the proof.
func Open(root api.Digest, proof api.Proof, known ...api.Bound) (*Part, api.Errno) {
	if !rise(known) {
		return nil, api.ErrSparseKeys
	}
	l := &listener{proof: proof}
	top, good := l.part(area{}, known)
	if !good || !l.ended() || top.digest() != root {
		return nil, api.ErrSparseProof
	}
	return &Part{top: top, known: slices.Clone(known)}, api.OK
}

// listener goes through a proof, part by part. What it is told it does not believe: each look answers false beside what may not be.
type listener struct {
	proof api.Proof
	marks int // so many marks are taken,
	sides int // and so many digests of Sides
}

// part takes a part; known are the keys that lie in it.
func (l *listener) part(a area, known []api.Bound) (*node, bool) {
	mark, good := l.mark()
	if !good {
		return nil, false
	}
	switch mark {
	case markNone:
		return nil, len(said(known)) == 0
	case markAsked:
		with := said(known)
		if len(with) != 1 {
			return nil, false
		}
		return single(with[0]), true
	case markOther:
		return l.other(a, known)
	}
	if a.bits == keyBits {
		return nil, false
	}
	if len(known) == 0 {
		return l.hidden()
	}
	return l.halves(a, known)
}

// other takes the key beside a part's mark.
func (l *listener) other(a area, known []api.Bound) (*node, bool) {
	key, value, good := l.two()
	if !good || !a.holds(key) || has(known, key) || isNoughts(value) || len(said(known)) > 0 {
		return nil, false
	}
	return single(api.Bound{Key: key, Value: value}), true
}

// hidden takes the two digests of a part into which nobody looks.
func (l *listener) hidden() (*node, bool) {
	left, right, good := l.two()
	if !good || isNoughts(left) && isNoughts(right) {
		return nil, false
	}
	return hide(left, right), true
}

// halves takes both halves of a part, which must have more than one key between them, as the part's mark has said.
func (l *listener) halves(a area, known []api.Bound) (*node, bool) {
	leftArea, rightArea := a.halves()
	in := inLeft(known, a.bits)
	left, good := l.part(leftArea, known[:in])
	if !good {
		return nil, false
	}
	right, good := l.part(rightArea, known[in:])
	if !good || left.size()+right.size() < 2 {
		return nil, false
	}
	return join(left, right), true
}

func (l *listener) mark() (byte, bool) {
	at := l.marks / marksOfAByte
	if at >= len(l.proof.Marks) {
		return 0, false
	}
	mark := l.proof.Marks[at] >> shiftOf(l.marks) & oneMark
	l.marks++
	return mark, true
}

// two takes two digests of Sides: no mark has another number of them beside it.
func (l *listener) two() (api.Digest, api.Digest, bool) {
	at := l.sides
	if len(l.proof.Sides)-at < 2 {
		return api.Digest{}, api.Digest{}, false
	}
	l.sides += 2
	return l.proof.Sides[at], l.proof.Sides[at+1], true
}

// ended tells whether nothing is left over, and nothing but bits 0 behind the last mark: a proof has one form.
func (l *listener) ended() bool {
	for l.marks%marksOfAByte != 0 {
		if mark, _ := l.mark(); mark != 0 {
			return false
		}
	}
	return l.marks/marksOfAByte == len(l.proof.Marks) && l.sides == len(l.proof.Sides)
}

// area is which keys lie in a part: those that begin with some bits. In start there stand these, and 0 behind them.
type area struct {
	start api.Digest
	bits  int
}

func (a area) holds(key api.Digest) bool {
	for i := range a.bits {
		if bitAt(key, i) != bitAt(a.start, i) {
			return false
		}
	}
	return true
}

func (a area) halves() (area, area) {
	left := area{start: a.start, bits: a.bits + 1}
	right := left
	right.start[a.bits/8] |= 0x80 >> (a.bits % 8)
	return left, right
}
