package digest

import "causeway/api"

const (
	digits     = "0123456789abcdef"
	textLength = 64
)

// Hex tells a digest in 64 digits.
func Hex(d api.Digest) string {
	var text [textLength]byte
	for i, b := range d {
		text[2*i], text[2*i+1] = digits[b>>4], digits[b&15]
	}
	return string(text[:])
}

// ReadHex reads them.
func ReadHex(s string) (api.Digest, api.Errno) {
	if len(s) != textLength {
		return api.Digest{}, api.ErrDigestHex
	}
	var d api.Digest
	for i := range d {
		high, isHigh := digitValue(s[2*i])
		low, isLow := digitValue(s[2*i+1])
		if !isHigh || !isLow {
			return api.Digest{}, api.ErrDigestHex
		}
		d[i] = high<<4 | low
	}
	return d, api.OK
}

func digitValue(c byte) (byte, bool) {
	switch {
	case '0' <= c && c <= '9':
		return c - '0', true
	case 'a' <= c && c <= 'f':
		return c - 'a' + 10, true
	}
	return 0, false
}
