package wire

import "causeway/api"

// Reader takes values off, one behind the other; once something was wrong it answers noughts.
type Reader struct {
	bytes []byte
	at    int
	fault api.Errno
}

// NewReader reads bytes from their beginning on.
func NewReader(b []byte) *Reader {
	if len(b) > api.MaxBytes {
		return &Reader{fault: api.ErrWireLong}
	}
	return &Reader{bytes: append([]byte(nil), b...)}
}

// Byte takes a byte.
func (r *Reader) Byte() byte {
	return take(r, (*Reader).seeByte)
}

// Flag takes a truth.
func (r *Reader) Flag() bool {
	return take(r, (*Reader).seeFlag)
}

// Number takes a number.
func (r *Reader) Number() int {
	return take(r, (*Reader).seeNumber)
}

// Bytes takes bytes, at most so many.
func (r *Reader) Bytes(most int) []byte {
	return take(r, func(r *Reader) []byte {
		return append([]byte(nil), r.next(r.seeCount(most))...)
	})
}

// Wide takes a wide number.
func (r *Reader) Wide() api.Wide {
	return take(r, (*Reader).seeWide)
}

// Digest takes a digest.
func (r *Reader) Digest() api.Digest {
	return take(r, (*Reader).seeDigest)
}

// Address takes an address.
func (r *Reader) Address() api.Address {
	return take(r, (*Reader).seeAddress)
}

// At tells how many bytes were taken.
func (r *Reader) At() int {
	if r == nil {
		return 0
	}
	return r.at
}

// Err tells what was wrong first.
func (r *Reader) Err() api.Errno {
	if r == nil {
		return api.ErrArg
	}
	return r.fault
}

// End tells what was wrong, or that bytes are left.
func (r *Reader) End() api.Errno {
	if e := r.Err(); e != api.OK {
		return e
	}
	if r.left() > 0 {
		return api.ErrWireRest
	}
	return api.OK
}

// List takes how many things there are, at most so many, and each of them.
func List[T any](r *Reader, most int, one func(r *Reader) T) []T {
	if r == nil || one == nil {
		return nil
	}
	n := take(r, func(r *Reader) int { return r.seeCount(most) })
	// The list grows with what is truly taken: a great number alone must not cost room.
	var l []T
	for len(l) < n && r.fault == api.OK {
		l = append(l, one(r))
	}
	if r.fault != api.OK {
		return nil
	}
	return l
}

// left tells how many bytes were not taken.
func (r *Reader) left() int {
	return len(r.bytes) - r.at
}

// take is the face of each look: the one place where a look that gave up is caught.
func take[T any](r *Reader, see func(r *Reader) T) (x T) {
	if r.Err() != api.OK {
		return x
	}
	at := r.at
	defer func() {
		if why := recover(); why != nil {
			// Behind a fault nothing is taken any more, so the bytes need not be kept.
			r.bytes, r.at, r.fault = nil, at, api.Errno(why.(gaveUp))
		}
	}()
	return see(r)
}
