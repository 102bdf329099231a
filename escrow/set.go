package escrow

import "maps"

// number is what a set can be of.
type number interface {
	~int | ~int64 | ~uint64
}

// set is some numbers. 64 that stand side by side share a word, for indices come close to one another, and a vault is copied often.
type set[N number] struct {
	words map[N]uint64
}

// has tells whether a number is there.
func (s set[N]) has(n N) bool {
	word, bit := place(n)
	return s.words[word]&bit != 0
}

// put lets a number be there.
func (s *set[N]) put(n N) {
	if s.words == nil {
		s.words = map[N]uint64{}
	}
	word, bit := place(n)
	s.words[word] |= bit
}

// copied is a set of its own with the same numbers.
func (s set[N]) copied() set[N] {
	return set[N]{words: maps.Clone(s.words)}
}

// place tells in which word a number stands, and as which bit.
func place[N number](n N) (N, uint64) {
	return n >> 6, 1 << (n & 63)
}
