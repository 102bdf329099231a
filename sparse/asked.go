package sparse

import (
	"bytes"
	"slices"
	"sort"

	"causeway/api"
)

// rise tells whether each key is greater than the one ahead of it.
func rise(asked []api.Bound) bool {
	for i := 1; i < len(asked); i++ {
		if compare(asked[i-1], asked[i].Key) >= 0 {
			return false
		}
	}
	return true
}

func compare(b api.Bound, key api.Digest) int {
	return bytes.Compare(b.Key[:], key[:])
}

// place is where a key stands among rising ones, and whether it does.
func place(asked []api.Bound, key api.Digest) (int, bool) {
	return slices.BinarySearchFunc(asked, key, compare)
}

func has(asked []api.Bound, key api.Digest) bool {
	_, is := place(asked, key)
	return is
}

// inLeft is how many of the rising keys of a part of so many bits lie in its left half.
func inLeft(asked []api.Bound, bits int) int {
	return sort.Search(len(asked), func(i int) bool { return bitAt(asked[i].Key, bits) })
}

// said are those that are said to have a value.
func said(known []api.Bound) []api.Bound {
	var with []api.Bound
	for _, b := range known {
		if !isNoughts(b.Value) {
			with = append(with, b)
		}
	}
	return with
}
