package world

import (
	"strconv"
	"strings"

	"causeway/api"
	"causeway/digest"
	"causeway/wide"
)

const (
	digits   = "0123456789abcdef"
	pastLast = 1 << 62 // the least that is no number of a script
)

// isName tells whether a word may name somebody.
func isName(word string) bool {
	for _, r := range word {
		if !isNameRune(r) {
			return false
		}
	}
	return word != "" && len(word) <= len(api.Address{})
}

func isNameRune(r rune) bool {
	return r >= 'a' && r <= 'z' || r >= '0' && r <= '9'
}

// toAddress reads a name: the address that it stands for.
func toAddress(word string) (api.Address, bool) {
	var a api.Address
	if !isName(word) {
		return a, false
	}
	copy(a[:], word)
	return a, true
}

// who tells an address: by its name, if it has one.
func who(a api.Address) string {
	used := len(a)
	for used > 0 && a[used-1] == 0 {
		used--
	}
	if name := string(a[:used]); isName(name) {
		return name
	}
	var d api.Digest
	copy(d[:], a[:])
	return start(d, len(a))
}

// start tells how a digest begins: so many bytes of it, by their digits.
func start(d api.Digest, n int) string {
	return digest.Hex(d)[:2*n]
}

func toAmount(word string) (api.Wide, bool) {
	w, e := wide.Parse(word)
	return w, e == api.OK
}

func toNumber(word string) (int, bool) {
	w, e := wide.Parse(word)
	if e != api.OK || wide.Cmp(w, wide.Of(pastLast)) >= 0 {
		return 0, false
	}
	return int(w[0]), true
}

func number(n int) string {
	return strconv.Itoa(n)
}

// toBytes reads digits, two a byte.
func toBytes(word string) ([]byte, bool) {
	if word == "" || len(word)%2 != 0 {
		return nil, false
	}
	list := make([]byte, 0, len(word)/2)
	for i := 0; i < len(word); i += 2 {
		high, low := strings.IndexByte(digits, word[i]), strings.IndexByte(digits, word[i+1])
		if high < 0 || low < 0 {
			return nil, false
		}
		list = append(list, byte(high<<4|low))
	}
	return list, true
}
