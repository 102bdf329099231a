package wide

import (
	"math/bits"

	"causeway/api"
)

// double has room for the product of any two numbers; like theirs, its lowest part is the first.
type double [2 * parts]uint64

// shifted has room for a double, moved up by less than 64 bits.
type shifted [2*parts + 1]uint64

// times is the product, exact however great it is.
func times(a, b api.Wide) double {
	var product double
	for i := range a {
		var carry uint64
		for j := range b {
			// The product of two parts, with two parts added to it, is still below 2^128: no carry is lost.
			var low, over uint64
			carry, low = mulAdd(a[i], b[j], carry)
			product[i+j], over = bits.Add64(product[i+j], low, 0)
			carry += over
		}
		product[i+parts] = carry
	}
	return product
}

// mulAdd is a times b and c to it: the high part, and the low one.
func mulAdd(a, b, c uint64) (uint64, uint64) {
	high, low := bits.Mul64(a, b)
	low, over := bits.Add64(low, c, 0)
	return high + over, low
}

// doubled is a number with noughts above it.
func doubled(a api.Wide) double {
	var d double
	copy(d[:], a[:])
	return d
}

// halves are the number that d is below 2^256, and what stands above that.
func halves(d double) (api.Wide, api.Wide) {
	var low, high api.Wide
	copy(low[:], d[:parts])
	copy(high[:], d[parts:])
	return low, high
}

func shiftUp(d double, by int) shifted {
	var up shifted
	for i, part := range d {
		up[i] |= part << by
		up[i+1] = part >> (64 - by)
	}
	return up
}

// shiftDown undoes shiftUp of what is a number again.
func shiftDown(up shifted, by int) api.Wide {
	var a api.Wide
	for i := range a {
		a[i] = up[i]>>by | up[i+1]<<(64-by)
	}
	return a
}
