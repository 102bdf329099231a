package wide

import (
	"math/bits"
	"strconv"

	"causeway/api"
)

const (
	width   = 8 * parts
	tenTo19 = 10_000_000_000_000_000_000 // the greatest power of ten that a part has room for
	noughts = "0000000000000000000"
)

// Bytes is it in 32 bytes, the highest first.
func Bytes(a api.Wide) []byte {
	b := make([]byte, width)
	for i := range b {
		b[width-1-i] = byte(a[i/8] >> (i % 8 * 8))
	}
	return b
}

// Read reads them.
func Read(b []byte) (api.Wide, api.Errno) {
	if len(b) != width {
		return api.Wide{}, api.ErrWideBytes
	}
	var a api.Wide
	for i := range b {
		a[i/8] |= uint64(b[width-1-i]) << (i % 8 * 8)
	}
	return a, api.OK
}

// Text is it in decimals.
func Text(a api.Wide) string {
	rest, low := cutDigits(a)
	tail := strconv.FormatUint(low, 10)
	if IsZero(rest) {
		return tail
	}
	return Text(rest) + noughts[len(tail):] + tail
}

// Parse reads decimals.
func Parse(s string) (api.Wide, api.Errno) {
	if s == "" || s[0] == '0' && len(s) > 1 {
		return api.Wide{}, api.ErrWideText
	}
	var a api.Wide
	for i := range len(s) {
		if s[i] < '0' || s[i] > '9' {
			return api.Wide{}, api.ErrWideText
		}
		var over uint64
		if a, over = putDigit(a, s[i]-'0'); over != 0 {
			return api.Wide{}, api.ErrWideText
		}
	}
	return a, api.OK
}

// cutDigits cuts off the last 19 digits.
func cutDigits(a api.Wide) (api.Wide, uint64) {
	var low uint64
	for i := parts - 1; i >= 0; i-- {
		a[i], low = bits.Div64(low, a[i], tenTo19)
	}
	return a, low
}

// putDigit puts a digit behind the others; it tells what is then above 2^256.
func putDigit(a api.Wide, digit byte) (api.Wide, uint64) {
	carry := uint64(digit)
	for i := range a {
		carry, a[i] = mulAdd(a[i], 10, carry)
	}
	return a, carry
}
