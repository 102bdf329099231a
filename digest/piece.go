package digest

import (
	"math/bits"

	"causeway/api"
)

const (
	pieceBytes = 64
	pieceBits  = 8 * pieceBytes
	lengthBits = 64 // how many bits of the last piece tell the text's length
)

// cubeRoots are the first 32 bits behind the point of the cube roots of the first sixty-four primes.
var cubeRoots = [64]uint32{
	0x428a2f98, 0x71374491, 0xb5c0fbcf, 0xe9b5dba5, 0x3956c25b, 0x59f111f1, 0x923f82a4, 0xab1c5ed5,
	0xd807aa98, 0x12835b01, 0x243185be, 0x550c7dc3, 0x72be5d74, 0x80deb1fe, 0x9bdc06a7, 0xc19bf174,
	0xe49b69c1, 0xefbe4786, 0x0fc19dc6, 0x240ca1cc, 0x2de92c6f, 0x4a7484aa, 0x5cb0a9dc, 0x76f988da,
	0x983e5152, 0xa831c66d, 0xb00327c8, 0xbf597fc7, 0xc6e00bf3, 0xd5a79147, 0x06ca6351, 0x14292967,
	0x27b70a85, 0x2e1b2138, 0x4d2c6dfc, 0x53380d13, 0x650a7354, 0x766a0abb, 0x81c2c92e, 0x92722c85,
	0xa2bfe8a1, 0xa81a664b, 0xc24b8b70, 0xc76c51a3, 0xd192e819, 0xd6990624, 0xf40e3585, 0x106aa070,
	0x19a4c116, 0x1e376c08, 0x2748774c, 0x34b0bcb5, 0x391c0cb3, 0x4ed8aa4a, 0x5b9cca4f, 0x682e6ff3,
	0x748f82ee, 0x78a5636f, 0x84c87814, 0x8cc70208, 0x90befffa, 0xa4506ceb, 0xbef9a3f7, 0xc67178f2,
}

// firstState is the first 32 bits behind the point of the square roots of the first eight primes.
func firstState() [8]uint32 {
	return [8]uint32{
		0x6a09e667, 0xbb67ae85, 0x3c6ef372, 0xa54ff53a,
		0x510e527f, 0x9b05688c, 0x1f83d9ab, 0x5be0cd19,
	}
}

// finish ends a text of n bits whose last n%pieceBits bits stand in tail, with noughts behind them.
func finish(state [8]uint32, tail [pieceBytes]byte, n int) api.Digest {
	at := n % pieceBits
	tail[at/8] |= 0x80 >> (at % 8)
	if at >= pieceBits-lengthBits {
		// The bit 1 has left no room for the length.
		state = takeIn(state, wordsOf(tail))
		tail = [pieceBytes]byte{}
	}
	words := wordsOf(tail)
	words[14], words[15] = uint32(uint64(n)>>32), uint32(n)
	return bytesOf(takeIn(state, words))
}

// takeIn is the state behind one more piece.
func takeIn(state [8]uint32, piece [16]uint32) [8]uint32 {
	w := spread(piece)
	a, b, c, d := state[0], state[1], state[2], state[3]
	e, f, g, h := state[4], state[5], state[6], state[7]
	for t := range 64 {
		x := h + (turn(e, 6) ^ turn(e, 11) ^ turn(e, 25)) + (e&f ^ ^e&g) + cubeRoots[t] + w[t]
		y := (turn(a, 2) ^ turn(a, 13) ^ turn(a, 22)) + (a&b ^ a&c ^ b&c)
		a, b, c, d, e, f, g, h = x+y, a, b, c, d+x, e, f, g
	}
	return [8]uint32{
		state[0] + a, state[1] + b, state[2] + c, state[3] + d,
		state[4] + e, state[5] + f, state[6] + g, state[7] + h,
	}
}

// spread makes the sixty-four words of the rounds out of a piece's sixteen.
func spread(piece [16]uint32) [64]uint32 {
	var w [64]uint32
	copy(w[:], piece[:])
	for t := 16; t < 64; t++ {
		near, far := w[t-2], w[t-15]
		w[t] = (turn(near, 17) ^ turn(near, 19) ^ near>>10) + w[t-7] +
			(turn(far, 7) ^ turn(far, 18) ^ far>>3) + w[t-16]
	}
	return w
}

// turn lets what falls out below come in above.
func turn(x uint32, n int) uint32 {
	return bits.RotateLeft32(x, -n)
}

func wordsOf(piece [pieceBytes]byte) [16]uint32 {
	var words [16]uint32
	for i := range words {
		b := 4 * i
		words[i] = uint32(piece[b])<<24 | uint32(piece[b+1])<<16 | uint32(piece[b+2])<<8 | uint32(piece[b+3])
	}
	return words
}

func bytesOf(state [8]uint32) api.Digest {
	var d api.Digest
	for i, word := range state {
		b := 4 * i
		d[b], d[b+1], d[b+2], d[b+3] = byte(word>>24), byte(word>>16), byte(word>>8), byte(word)
	}
	return d
}
