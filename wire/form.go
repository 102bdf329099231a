// Package wire is layer 3: values as bytes, in one form each: see shared/doc/03-wire.md.
package wire

import (
	"math/bits"

	"causeway/api"
)

const (
	numberBytes = 8
	wideBytes   = 32
)

// form has room for a number of either kind: how many bytes it has, then they. A number's form is that of the wide number of its worth, so one array serves both.
type form [1 + wideBytes]byte

// formOf makes a number's form, and tells how much of the array it is.
func formOf(a api.Wide) (form, int) {
	var f form
	k := bytesOf(a)
	f[0] = byte(k)
	for i := range k {
		f[k-i] = byte(a[i/8] >> (i % 8 * 8))
	}
	return f, 1 + k
}

// bytesOf tells how many bytes a number has without noughts ahead of it.
func bytesOf(a api.Wide) int {
	for i := len(a) - 1; i >= 0; i-- {
		if a[i] != 0 {
			return 8*i + (bits.Len64(a[i])+7)/8
		}
	}
	return 0
}
