package outbox

import (
	"causeway/api"
	"causeway/tree"
)

// texts are leaves' bytes, by the leaves' indices.
type texts [][]byte

// Len tells how many there are.
func (t texts) Len() int { return len(t) }

// Book has all leaves.
type Book struct {
	texts
}

// New is an empty one.
func New() *Book {
	return &Book{}
}

// Put adds the next leaf.
func (b *Book) Put(l api.Leaf) api.Errno {
	if b == nil {
		return api.ErrArg
	}
	text, e := Bytes(l)
	switch {
	case e != api.OK:
		return e
	case l.Index != b.Len():
		return api.ErrOutboxIndex
	}
	b.texts = append(b.texts, text)
	return api.OK
}

// Leaf tells one.
func (b *Book) Leaf(index int) (api.Leaf, api.Errno) {
	switch {
	case b == nil:
		return api.Leaf{}, api.ErrArg
	case index < 0 || index >= b.Len():
		return api.Leaf{}, api.ErrOutboxIndex
	}
	return Read(b.texts[index])
}

// Root is the digest over the first so many.
func (b *Book) Root(size int) (api.Digest, api.Errno) {
	leaves, e := b.first(size)
	if e != api.OK {
		return api.Digest{}, e
	}
	return tree.Root(leaves), api.OK
}

// Path shows a leaf among the first so many.
func (b *Book) Path(index, size int) ([]api.Digest, api.Errno) {
	leaves, e := b.first(size)
	switch {
	case e != api.OK:
		return nil, e
	case index < 0 || index >= size:
		return nil, api.ErrOutboxIndex
	}
	return tree.Path(leaves, index)
}

// Cut lets the first so many alone be there.
func (b *Book) Cut(size int) api.Errno {
	left, e := b.first(size)
	if e != api.OK {
		return e
	}
	clear(b.texts[size:]) // else the list's room would keep what was cut off
	b.texts = left
	return api.OK
}

// first is what the first so many leaves are as bytes, where they stand.
func (b *Book) first(size int) (texts, api.Errno) {
	switch {
	case b == nil:
		return nil, api.ErrArg
	case size < 0 || size > b.Len():
		return nil, api.ErrOutboxSize
	}
	return b.texts[:size], api.OK
}
