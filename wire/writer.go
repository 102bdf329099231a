package wire

import "causeway/api"

// Writer lays values behind one another.
type Writer struct {
	laid  []byte
	fault api.Errno
}

// NewWriter is an empty one.
func NewWriter() *Writer {
	return &Writer{}
}

// Byte lays a byte.
func (w *Writer) Byte(b byte) {
	w.lay([]byte{b})
}

// Flag lays a truth.
func (w *Writer) Flag(is bool) {
	if is {
		w.Byte(1)
	} else {
		w.Byte(0)
	}
}

// Number lays a number from 0 on.
func (w *Writer) Number(n int) {
	if n < 0 {
		w.fail(api.ErrWireForm)
		return
	}
	w.Wide(api.Wide{uint64(n)})
}

// Bytes lays bytes, with how many they are.
func (w *Writer) Bytes(b []byte) {
	count, size := formOf(api.Wide{uint64(len(b))})
	w.lay(count[:size], b)
}

// Wide lays a wide number.
func (w *Writer) Wide(a api.Wide) {
	number, size := formOf(a)
	w.lay(number[:size])
}

// Digest lays a digest.
func (w *Writer) Digest(d api.Digest) {
	w.lay(d[:])
}

// Address lays an address.
func (w *Writer) Address(a api.Address) {
	w.lay(a[:])
}

// Done is all that was laid.
func (w *Writer) Done() ([]byte, api.Errno) {
	if w == nil {
		return nil, api.ErrArg
	}
	if w.fault != api.OK {
		return nil, w.fault
	}
	return append([]byte(nil), w.laid...), api.OK
}

// Lay lays how many things there are, and each of them.
func Lay[T any](w *Writer, l []T, one func(w *Writer, x T)) {
	if w == nil || one == nil {
		return
	}
	w.Number(len(l))
	for _, x := range l {
		if !w.open() {
			return
		}
		one(w, x)
	}
}

// lay lays the parts of one value: all of them, or none.
func (w *Writer) lay(parts ...[]byte) {
	if !w.open() {
		return
	}
	size := 0
	for _, part := range parts {
		size += len(part)
	}
	if size > api.MaxBytes-len(w.laid) {
		w.fail(api.ErrWireLong)
		return
	}
	for _, part := range parts {
		w.laid = append(w.laid, part...)
	}
}

// open tells whether values may still be laid.
func (w *Writer) open() bool {
	return w != nil && w.fault == api.OK
}

// fail keeps the first fault, and none of the bytes: nobody can ask for them any more.
func (w *Writer) fail(fault api.Errno) {
	if w.open() {
		w.laid, w.fault = nil, fault
	}
}
