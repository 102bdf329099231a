package bridge

import (
	"cmp"
	"errors"

	"causeway/api"
	"causeway/wire"
)

// form is how a T (a header, an operation, an order) stands as bytes: its kind, and behind it those of its parts that the kind uses, in their order.
type form[T any] struct {
	first, last int // of the kinds
	kind        func(x *T) *int
	parts       []part[T]
}

// gaveUp is the error of a reader that can not go on: why the bytes are not of the form.
type gaveUp struct {
	why api.Errno
}

func (g gaveUp) Error() string { return "causeway: a reader gave up: " + g.why.Error() }

func (g gaveUp) Unwrap() error { return g.why }

// gaveUpBy is that error for a fault; nil, if there is none.
func gaveUpBy(fault api.Errno) error {
	if fault == api.OK {
		return nil
	}
	return gaveUp{fault}
}

func isGivenUp(err error) bool {
	var g gaveUp
	return errors.As(err, &g)
}

func (f form[T]) isKind(kind int) bool {
	return kind >= f.first && kind <= f.last
}

// fits tells whether a T is of one of the kinds, and every part may be what it is: a used one by its own rule, any other if it is zero.
func (f form[T]) fits(x *T) bool {
	kind := *f.kind(x)
	if !f.isKind(kind) {
		return false
	}
	for _, p := range f.parts {
		holds := p.isZero
		if p.isUsedBy(kind) {
			holds = p.mayBe
		}
		if !holds(x) {
			return false
		}
	}
	return true
}

// write answers the bytes of a T that fits: so there is no fault but that they are too many.
func (f form[T]) write(x T) ([]byte, api.Errno) {
	w := wire.NewWriter()
	f.lay(w, x)
	return w.Done()
}

func (f form[T]) lay(w *wire.Writer, x T) {
	kind := *f.kind(&x)
	w.Byte(byte(kind))
	for _, p := range f.parts {
		if p.isUsedBy(kind) {
			p.lay(w, &x)
		}
	}
}

// read answers the T whose bytes these are, to their end.
func (f form[T]) read(b []byte) (T, error) {
	r := wire.NewReader(b)
	x, err := f.take(r)
	if err != nil {
		return x, err
	}
	return x, gaveUpBy(r.End())
}

// take takes a T off, up to the first part at which it gives up.
func (f form[T]) take(r *wire.Reader) (T, error) {
	var x T
	kind := int(r.Byte())
	if !f.isKind(kind) {
		return x, gaveUp{cmp.Or(r.Err(), api.ErrWireForm)}
	}
	*f.kind(&x) = kind
	for _, p := range f.parts {
		if !p.isUsedBy(kind) {
			continue
		}
		if err := p.take(r, &x); err != nil {
			return x, err
		}
	}
	return x, nil
}
