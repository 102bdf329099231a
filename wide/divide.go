package wide

import (
	"math"
	"math/bits"

	"causeway/api"
)

// Div is the quotient, and what is left.
func Div(a, b api.Wide) (api.Wide, api.Wide, api.Errno) {
	if IsZero(b) {
		return api.Wide{}, api.Wide{}, api.ErrWideZero
	}
	quotient, left := divide(doubled(a), b)
	low, _ := halves(quotient)
	return low, left, api.OK
}

// MulDiv is a times b by c, exact in between.
func MulDiv(a, b, c api.Wide) (api.Wide, api.Errno) {
	if IsZero(c) {
		return api.Wide{}, api.ErrWideZero
	}
	quotient, _ := divide(times(a, b), c)
	low, over := halves(quotient)
	if !IsZero(over) {
		return api.Wide{}, api.ErrWideOver
	}
	return low, api.OK
}

// divide does it as on paper, with parts for digits; b is not nought.
func divide(a double, b api.Wide) (double, api.Wide) {
	n := (Bits(b) + 63) / 64
	// A divisor whose highest bit is set makes guesses that are never too small, and too great by two at most.
	shift := bits.LeadingZeros64(b[n-1])
	rest, by := shiftUp(a, shift), shiftUp(doubled(b), shift)
	var quotient double
digits:
	for at := len(quotient) - n; at >= 0; at-- {
		for digit := guess(rest[at+n], rest[at+n-1], by[n-1]); ; digit-- {
			if less, enough := takeAway(rest, by, n, digit, at); enough {
				rest, quotient[at] = less, digit
				continue digits
			}
		}
	}
	return quotient, shiftDown(rest, shift)
}

// guess is the digit as the highest parts alone tell it; high is at most by.
func guess(high, low, by uint64) uint64 {
	if high == by {
		return math.MaxUint64 // what Div64 would find has no room in a digit
	}
	digit, _ := bits.Div64(high, low, by)
	return digit
}

// takeAway is rest less digit times the n parts of by, which stand at parts higher; it tells whether there was so much.
func takeAway(rest, by shifted, n int, digit uint64, at int) (shifted, bool) {
	var carry, borrow uint64
	for i := range n {
		var low uint64
		carry, low = mulAdd(by[i], digit, carry)
		rest[at+i], borrow = bits.Sub64(rest[at+i], low, borrow)
	}
	rest[at+n], borrow = bits.Sub64(rest[at+n], carry, borrow)
	return rest, borrow == 0
}
