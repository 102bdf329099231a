package ladder

import (
	"causeway/api"
	"causeway/wire"
)

// firstByte is the byte that an assertion's bytes begin with.
const firstByte = 'A'

// Bytes writes an assertion.
func Bytes(c api.Commit) ([]byte, api.Errno) {
	if !mayBe(c) {
		return nil, api.ErrLadderForm
	}
	w := wire.NewWriter()
	w.Byte(firstByte)
	w.Number(c.Count)
	w.Digest(c.State)
	w.Digest(c.Outbox)
	w.Number(c.Leaves)
	return w.Done()
}

// Read reads one.
func Read(b []byte) (api.Commit, api.Errno) {
	r := wire.NewReader(b)
	first := r.Byte()
	var c api.Commit
	c.Count = r.Number()
	c.State = r.Digest()
	c.Outbox = r.Digest()
	c.Leaves = r.Number()
	if first != firstByte || r.End() != api.OK || !mayBe(c) {
		return api.Commit{}, api.ErrLadderForm
	}
	return c, api.OK
}

// mayBe tells whether values are those of a commit.
func mayBe(c api.Commit) bool {
	return c.Count >= 0 && c.Count <= api.MaxCount && c.Leaves >= 0 && c.Leaves <= api.MaxCount
}

// follows tells whether a commit may be asserted behind one that may be. (It is asked first whether it may be itself, so that the difference does not wrap.)
func follows(c, top api.Commit) bool {
	return mayBe(c) && c.Count > top.Count && c.Count-top.Count <= api.MaxSpan && c.Leaves >= top.Leaves
}
