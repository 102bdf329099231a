package wire

import (
	"math"

	"causeway/api"
)

// gaveUp is what a look panics with: a type of its own, so that no other panic is taken for a fault.
type gaveUp api.Errno

// What follows are looks: they read as if all bytes were there, in their form, and are called below take alone.

// next goes on behind n bytes, and shows them where they stand.
func (r *Reader) next(n int) []byte {
	if n > r.left() {
		panic(gaveUp(api.ErrWireShort))
	}
	r.at += n
	return r.bytes[r.at-n : r.at]
}

func (r *Reader) seeByte() byte {
	return r.next(1)[0]
}

func (r *Reader) seeFlag() bool {
	b := r.seeByte()
	if b > 1 {
		panic(gaveUp(api.ErrWireForm))
	}
	return b == 1
}

func (r *Reader) seeNumber() int {
	a := r.seeDigits(numberBytes)
	if a[0] > math.MaxInt64 {
		panic(gaveUp(api.ErrWireForm))
	}
	return int(a[0])
}

func (r *Reader) seeWide() api.Wide {
	return r.seeDigits(wideBytes)
}

// seeDigits sees a number of at most so many bytes.
func (r *Reader) seeDigits(most int) api.Wide {
	k := int(r.seeByte())
	if k > most {
		panic(gaveUp(api.ErrWireForm))
	}
	digits := r.next(k)
	if k > 0 && digits[0] == 0 {
		panic(gaveUp(api.ErrWireForm))
	}
	var a api.Wide
	for i := range k {
		a[i/8] |= uint64(digits[k-1-i]) << (i % 8 * 8)
	}
	return a
}

// seeCount sees how many bytes or things there are; each of them has a byte at least.
func (r *Reader) seeCount(most int) int {
	n := r.seeNumber()
	if n > most {
		panic(gaveUp(api.ErrWireLong))
	}
	if n > r.left() {
		panic(gaveUp(api.ErrWireShort))
	}
	return n
}

func (r *Reader) seeDigest() api.Digest {
	return api.Digest(r.next(len(api.Digest{})))
}

func (r *Reader) seeAddress() api.Address {
	return api.Address(r.next(len(api.Address{})))
}
