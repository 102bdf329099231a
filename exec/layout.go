package exec

import (
	"causeway/api"
	"causeway/machine"
	"causeway/store"
	"causeway/wide"
)

// Where it stands, and what the keys of programs and of their slots begin with.
const (
	adminKey    = "a"
	countKey    = "ne"
	programsKey = "np"
	programMark = "p"
	slotMark    = "s"
)

// homeMark is what is digested ahead of a program's number.
const homeMark = "program"

const (
	numberWidth  = 8
	addressWidth = len(api.Address{})
)

func programKey(number int) string {
	return programMark + string(eight(number))
}

func slotKey(number int, slot api.Wide) string {
	return slotMark + string(eight(number)) + string(wide.Bytes(slot))
}

func askAdmin(s *store.State) (api.Address, api.Errno) {
	b, e := s.Get(adminKey)
	switch {
	case e != api.OK:
		return api.Address{}, e
	case len(b) != addressWidth:
		return api.Address{}, api.ErrStoreForm
	}
	return api.Address(b), api.OK
}

// askNumber asks for the count, or for how many programs were made.
func askNumber(s *store.State, key string) (int, api.Errno) {
	b, e := s.Get(key)
	if e != api.OK || len(b) == 0 {
		return 0, e
	}
	// A number of nought is not there, so none stands there as nought.
	if n := readEight(b); len(b) == numberWidth && n >= 1 && n <= api.MaxCount {
		return n, api.OK
	}
	return 0, api.ErrStoreForm
}

func layNumber(s *store.State, key string, n int) api.Errno {
	return s.Put(key, eight(n))
}

// askProgram asks for a program's code.
func askProgram(s *store.State, number int) ([]byte, api.Errno) {
	code, e := s.Get(programKey(number))
	switch {
	case e != api.OK:
		return nil, e
	case len(code) == 0:
		return nil, api.ErrExecProgram
	case machine.Check(code) != api.OK:
		return nil, api.ErrStoreForm
	}
	return code, api.OK
}

func askSlot(s *store.State, number int, slot api.Wide) (api.Wide, api.Errno) {
	b, e := s.Get(slotKey(number, slot))
	if e != api.OK || len(b) == 0 {
		return api.Wide{}, e
	}
	value, e := wide.Read(b)
	if e != api.OK || wide.IsZero(value) {
		return api.Wide{}, api.ErrStoreForm
	}
	return value, api.OK
}

func laySlot(s *store.State, number int, slot, value api.Wide) api.Errno {
	var b []byte // of nought nothing stands there
	if !wide.IsZero(value) {
		b = wide.Bytes(value)
	}
	return s.Put(slotKey(number, slot), b)
}

// eight is a number in 8 bytes, the highest first.
func eight(n int) []byte {
	b := make([]byte, numberWidth)
	for i := range b {
		b[numberWidth-1-i] = byte(n >> (8 * i))
	}
	return b
}

// readEight reads them. One of 2^63 or more comes out below nought, where no number may be.
func readEight(b []byte) int {
	n := 0
	for _, x := range b {
		n = n<<8 | int(x)
	}
	return n
}
