package letter

import (
	"slices"

	"causeway/api"
	"causeway/wire"
)

// field is one field of a T (a letter or an entry), by what can be asked of it.
type field[T any] struct {
	mayBe  func(x *T) bool
	isZero func(x *T) bool
	lay    func(w *wire.Writer, x *T)
	take   func(r *wire.Reader, x *T)
}

// table is all fields of a T, each at its place; which of them count is told by a list of places, in the order of the bytes.
type table[T any] []field[T]

// fits tells whether every field may be what it is: the used ones by their own rule, the others if they are zero.
func (t table[T]) fits(x *T, used []int) bool {
	for place, f := range t {
		holds := f.isZero
		if slices.Contains(used, place) {
			holds = f.mayBe
		}
		if !holds(x) {
			return false
		}
	}
	return true
}

// write answers the bytes of a T that fits: its numbers are not below 0, and it is far shorter than what a writer takes, so there is no fault to ask for.
func (t table[T]) write(kind int, x *T, used []int) []byte {
	w := wire.NewWriter()
	w.Byte(byte(kind))
	for _, place := range used {
		t[place].lay(w, x)
	}
	b, _ := w.Done()
	return b
}

// read fills the used fields from what stands behind the kind, and tells whether the bytes end there.
func (t table[T]) read(r *wire.Reader, x *T, used []int) bool {
	for _, place := range used {
		t[place].take(r, x)
	}
	return r.End() == api.OK
}

// anything is the rule of a field that may be whatever it is.
func anything[T any](*T) bool {
	return true
}

// within tells whether a number is from the least to the greatest that may be.
func within(n, least, most int) bool {
	return least <= n && n <= most
}

// isToken tells whether a token may have that number.
func isToken(n int) bool {
	return within(n, 0, api.MaxTokens-1)
}
