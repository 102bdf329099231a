package store

import (
	"bytes"
	"slices"

	"causeway/api"
	"causeway/digest"
	"causeway/sparse"
)

// Root is the digest over all.
func (t *Table) Root() api.Digest {
	if t == nil {
		return api.Digest{}
	}
	return t.hung().Root()
}

// Prove tells what is beside some keys.
func (t *Table) Prove(keys ...string) (api.Proof, api.Errno) {
	if t == nil {
		return api.Proof{}, api.ErrArg
	}
	asked := make([]api.Digest, 0, len(keys))
	for _, key := range keys {
		if !isKey(key) {
			return api.Proof{}, api.ErrStoreKey
		}
		asked = append(asked, overKey(key))
	}
	slices.SortFunc(asked, func(a, b api.Digest) int { return bytes.Compare(a[:], b[:]) })
	return t.hung().Prove(slices.Compact(asked)...)
}

// hung is the map under the root: by rising keys, so that of keys of one digest the greatest counts.
func (t *Table) hung() *sparse.Map {
	if t.digests == nil {
		m := sparse.New()
		for _, p := range t.pairs() {
			m.Put(overKey(p.Key), overValue(p.Value))
		}
		t.digests = m
	}
	return t.digests
}

// follow lays in the map under the root, too, what was laid in a table that had so many keys ahead of it. That is right while the map has as many keys as the table, ahead of it and behind it: then each has a digest of its own. Else the map is given up, for which of two keys of one digest counts is known of all keys alone.
func (t *Table) follow(key string, value []byte, ahead int) {
	if t.digests == nil {
		return
	}
	alone := t.digests.Len() == ahead
	t.digests.Put(overKey(key), overValue(value))
	if !alone || t.digests.Len() != len(t.values) {
		t.digests = nil
	}
}

func overKey(key string) api.Digest {
	return digest.Sum([]byte(key))
}

// overValue is what stands in the map for a value: noughts, if it has no byte.
func overValue(value []byte) api.Digest {
	if len(value) == 0 {
		return api.Digest{}
	}
	return digest.Sum(value)
}
