package witness

import (
	"bytes"
	"slices"
	"strings"

	"causeway/api"
	"causeway/digest"
)

// told is the source that has Pairs that may be; of every other key nothing is known.
type told []api.Pair

// Find tells the value of a pair.
func (t told) Find(key string) ([]byte, api.Errno) {
	at, is := slices.BinarySearchFunc(t, key, func(p api.Pair, key string) int { return strings.Compare(p.Key, key) })
	if !is {
		return nil, api.ErrStoreMissing
	}
	return t[at].Value, api.OK
}

// mayBe tells whether Pairs may be: their keys rise, and no key and no value is too long.
func mayBe(pairs []api.Pair) bool {
	ahead := "" // no key: each is greater
	for _, p := range pairs {
		if p.Key <= ahead || len(p.Key) > api.MaxKey || len(p.Value) > api.MaxValue {
			return false
		}
		ahead = p.Key
	}
	return true
}

// boundsOf are the digests of Pairs, by rising digests of their keys.
func boundsOf(pairs []api.Pair) []api.Bound {
	var bounds []api.Bound
	for _, p := range pairs {
		bounds = append(bounds, api.Bound{Key: overKey(p.Key), Value: overValue(p.Value)})
	}
	slices.SortFunc(bounds, func(a, b api.Bound) int { return bytes.Compare(a.Key[:], b.Key[:]) })
	return bounds
}

// areApart tells whether no two of the keys, which are in order, have one digest.
func areApart(bounds []api.Bound) bool {
	for i := 1; i < len(bounds); i++ {
		if bounds[i-1].Key == bounds[i].Key {
			return false
		}
	}
	return true
}

func overKey(key string) api.Digest {
	return digest.Sum([]byte(key))
}

// overValue is what stands under the root for a value: noughts, if it has no byte.
func overValue(value []byte) api.Digest {
	if len(value) == 0 {
		return api.Digest{}
	}
	return digest.Sum(value)
}
