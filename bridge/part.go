package bridge

import (
	"slices"

	"causeway/api"
	"causeway/wire"
)

// part is one part of a T, by what can be asked of it.
type part[T any] struct {
	kinds  []int // of a T, by which it is used; none: by all
	isZero func(x *T) bool
	mayBe  func(x *T) bool
	lay    func(w *wire.Writer, x *T)
	take   func(r *wire.Reader, x *T) error
}

// of is the part as it is used by these kinds alone.
func (p part[T]) of(kinds ...int) part[T] {
	p.kinds = kinds
	return p
}

func (p part[T]) isUsedBy(kind int) bool {
	return len(p.kinds) == 0 || slices.Contains(p.kinds, kind)
}

// plain is a part that is one value, by where that stands, whether it may be, and its form.
func plain[T any, V comparable](at func(x *T) *V, mayBe func(V) bool, lay func(*wire.Writer, V), take func(*wire.Reader) V) part[T] {
	return part[T]{
		isZero: func(x *T) bool {
			var zero V
			return *at(x) == zero
		},
		mayBe: func(x *T) bool { return mayBe(*at(x)) },
		lay:   func(w *wire.Writer, x *T) { lay(w, *at(x)) },
		take: func(r *wire.Reader, x *T) error {
			*at(x) = take(r)
			return gaveUpBy(r.Err())
		},
	}
}

func number[T any](at func(x *T) *int) part[T] {
	return plain(at, isNatural, (*wire.Writer).Number, (*wire.Reader).Number)
}

func amount[T any](at func(x *T) *api.Wide) part[T] {
	return plain(at, anything[api.Wide], (*wire.Writer).Wide, (*wire.Reader).Wide)
}

func address[T any](at func(x *T) *api.Address) part[T] {
	return plain(at, anything[api.Address], (*wire.Writer).Address, (*wire.Reader).Address)
}

func isNatural(n int) bool {
	return n >= 0
}

func anything[V any](V) bool {
	return true
}
