package ticket

import (
	"slices"

	"causeway/api"
	"causeway/wide"
)

// Where it stands: how many were made, and what a ticket's key begins with.
const (
	madeKey    = "nt"
	ticketMark = "k"
)

// How many bytes the pieces of a ticket have, and all of them together.
const (
	numberWidth  = 8
	addressWidth = len(api.Address{})
	tokenWidth   = 1
	amountWidth  = 32
	ticketWidth  = numberWidth + addressWidth + tokenWidth + addressWidth + amountWidth
)

// mayBe tells whether a ticket's fields, its number aside, are those of a ticket.
func mayBe(t api.Ticket) bool {
	switch {
	case t.Entry < 0 || t.Entry >= api.MaxCount:
		return false
	case t.Token < 0 || t.Token >= api.MaxTokens:
		return false
	}
	return !wide.IsZero(t.Amount)
}

func ticketKey(number int) string {
	return ticketMark + string(eight(number))
}

func ticketBytes(t api.Ticket) []byte {
	return slices.Concat(eight(t.Entry), t.Sender[:], []byte{byte(t.Token)}, t.To[:], wide.Bytes(t.Amount))
}

// readTicket reads what stands at an open ticket's key; the number is the key's to tell.
func readTicket(b []byte) (api.Ticket, api.Errno) {
	if len(b) != ticketWidth {
		return api.Ticket{}, api.ErrStoreForm
	}
	cut := cutter(b)
	t := api.Ticket{Entry: readEight(cut(numberWidth))}
	copy(t.Sender[:], cut(addressWidth))
	t.Token = int(cut(tokenWidth)[0])
	copy(t.To[:], cut(addressWidth))
	amount, e := wide.Read(cut(amountWidth))
	t.Amount = amount
	if e != api.OK || !mayBe(t) {
		return api.Ticket{}, api.ErrStoreForm
	}
	return t, api.OK
}

// readMade reads what stands where it is kept how many were made.
func readMade(b []byte) (int, api.Errno) {
	switch len(b) {
	case 0:
		return 0, api.OK
	case numberWidth:
		if n := readEight(b); n >= 1 && n <= api.MaxCount {
			return n, api.OK
		}
	}
	return 0, api.ErrStoreForm
}

// cutter gives what cuts a piece of so many bytes off b, each time the next one.
func cutter(b []byte) func(int) []byte {
	return func(n int) []byte {
		piece := b[:n]
		b = b[n:]
		return piece
	}
}

// eight is a number in 8 bytes, the highest first.
func eight(n int) []byte {
	b := make([]byte, numberWidth)
	for i := range b {
		b[numberWidth-1-i] = byte(n >> (8 * i))
	}
	return b
}

// readEight reads them. One of 2^63 or more comes out below nought, where no number may be.
func readEight(b []byte) int {
	n := 0
	for _, x := range b {
		n = n<<8 | int(x)
	}
	return n
}
