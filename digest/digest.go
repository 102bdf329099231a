// Package digest is layer 1: SHA-256 at one stroke, in parts, and of bits: see shared/doc/01-digest.md.
package digest

import "causeway/api"

// Sum is the digest of bytes.
func Sum(data []byte) api.Digest {
	return Parts(data)
}

// Parts is the digest of some bytes, one list behind the other.
func Parts(parts ...[]byte) api.Digest {
	h := New()
	for _, part := range parts {
		h.Write(part)
	}
	return h.Sum()
}

// Bits is the digest of the first n bits, the highest bit of a byte first.
func Bits(data []byte, n int) (api.Digest, api.Errno) {
	if n < 0 || n > 8*len(data) {
		return api.Digest{}, api.ErrDigestBits
	}
	whole, over := n/8, n%8
	h := New()
	h.Write(data[:whole])
	tail := h.wait
	if over > 0 {
		// What stands behind the last bit is no part of the text: it must not reach the digest.
		tail[whole%pieceBytes] = data[whole] &^ (0xff >> over)
	}
	return finish(h.state, tail, n), api.OK
}

// Hasher takes bytes one list after the other.
type Hasher struct {
	state [8]uint32        // behind all whole pieces
	wait  [pieceBytes]byte // what came behind them, and noughts, which finish leans on
	taken int
}

// New is one that has taken none.
func New() *Hasher {
	return &Hasher{state: firstState()}
}

// Write takes bytes.
func (h *Hasher) Write(data []byte) {
	for len(data) > 0 {
		at := h.taken % pieceBytes
		n := copy(h.wait[at:], data)
		data = data[n:]
		h.taken += n
		if at+n == pieceBytes {
			h.state = takeIn(h.state, wordsOf(h.wait))
			h.wait = [pieceBytes]byte{}
		}
	}
}

// Len tells how many it has taken.
func (h *Hasher) Len() int {
	return h.taken
}

// Sum is the digest of all that it has taken; it goes on.
func (h *Hasher) Sum() api.Digest {
	return finish(h.state, h.wait, 8*h.taken)
}

// Copy is another one that has taken the same.
func (h *Hasher) Copy() *Hasher {
	other := *h
	return &other
}

// Reset lets it have taken none.
func (h *Hasher) Reset() {
	*h = *New()
}
