package outbox

import (
	"slices"

	"causeway/api"
	"causeway/store"
	"causeway/tree"
)

// boxKey is where a store's outbox stands.
const boxKey = "o"

// How many bytes a number and a digest have there.
const (
	numberWidth = 8
	digestWidth = len(api.Digest{})
)

// box is a store's outbox: the log goes on from the frontier that stands there.
type box struct {
	*tree.Log
}

// ask asks a state for its outbox.
func ask(s *store.State) (box, api.Errno) {
	if s == nil {
		return box{}, api.ErrArg
	}
	b, e := s.Get(boxKey)
	if e != api.OK {
		return box{}, e
	}
	return readBox(b)
}

// readBox reads what stands where an outbox does.
func readBox(b []byte) (box, api.Errno) {
	if len(b) == 0 {
		return box{tree.New()}, api.OK
	}
	if len(b)%digestWidth != numberWidth { // a number, and whole digests behind it
		return box{}, api.ErrStoreForm
	}
	size := readEight(b[:numberWidth])
	log, e := tree.Resume(size, digestsIn(b[numberWidth:]))
	// An outbox without a leaf is not there, so none stands there as a number of nought.
	if e != api.OK || size == 0 {
		return box{}, api.ErrStoreForm
	}
	return box{log}, api.OK
}

// lay lays it in the state that was asked for it, whose source has told what it has there: so it is never refused.
func (x box) lay(s *store.State) api.Errno {
	b := eight(x.Size())
	for _, d := range x.Front() {
		b = append(b, d[:]...)
	}
	return s.Put(boxKey, b)
}

// digestsIn are the digests of which whole bytes are made.
func digestsIn(b []byte) []api.Digest {
	var all []api.Digest
	for piece := range slices.Chunk(b, digestWidth) {
		all = append(all, api.Digest(piece))
	}
	return all
}

// eight is a number in 8 bytes, the highest first.
func eight(n int) []byte {
	var b []byte
	for i := range numberWidth {
		b = append(b, byte(n>>(8*(numberWidth-1-i))))
	}
	return b
}

// readEight reads them. One of 2^63 or more comes out below nought, where no number may be.
func readEight(b []byte) int {
	n := 0
	for _, x := range b {
		n = n<<8 | int(x)
	}
	return n
}
