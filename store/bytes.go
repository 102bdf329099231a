package store

import (
	"causeway/api"
	"causeway/wire"
)

const (
	firstByte = 'S'
	// leastPair is how many bytes a pair has at least: a key and a value of one byte each, with how many they are in two. So it is known ahead of reading that a list is too long to be a table's.
	leastPair = 6
)

// Bytes writes all.
func (t *Table) Bytes() ([]byte, api.Errno) {
	if t == nil {
		return nil, api.ErrArg
	}
	w := wire.NewWriter()
	w.Byte(firstByte)
	wire.Lay(w, t.pairs(), layPair)
	return w.Done()
}

// Read reads a table.
func Read(b []byte) (*Table, api.Errno) {
	r := wire.NewReader(b)
	first := r.Byte()
	pairs := wire.List(r, api.MaxBytes/leastPair, takePair)
	if first != firstByte || r.End() != api.OK || !areTold(pairs) {
		return nil, api.ErrStoreBytes
	}
	t := NewTable()
	for _, p := range pairs {
		t.lay(p.Key, p.Value)
	}
	return t, api.OK
}

func layPair(w *wire.Writer, p api.Pair) {
	w.Bytes([]byte(p.Key))
	w.Bytes(p.Value)
}

func takePair(r *wire.Reader) api.Pair {
	key := r.Bytes(api.MaxKey)
	return api.Pair{Key: string(key), Value: r.Bytes(api.MaxValue)}
}

// areTold tells whether a table tells pairs so: rising, and none without a value.
func areTold(pairs []api.Pair) bool {
	ahead := "" // no key: each is greater
	for _, p := range pairs {
		if p.Key <= ahead || len(p.Value) == 0 {
			return false
		}
		ahead = p.Key
	}
	return true
}
