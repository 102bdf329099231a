package witness

import (
	"causeway/api"
	"causeway/wire"
)

const (
	firstByte = 'W'
	// leastPair is how many bytes a pair has at least: a key of one byte with how many it is in two, and no value. So it is known ahead of reading that a list is too long to be a witness's.
	leastPair = 4
)

// Bytes writes a witness.
func Bytes(w api.Witness) ([]byte, api.Errno) {
	if !mayBe(w.Pairs) {
		return nil, api.ErrWitnessForm
	}
	// A writer takes MaxBytes bytes, which are just MaxWitness.
	out := wire.NewWriter()
	out.Byte(firstByte)
	wire.Lay(out, w.Pairs, layPair)
	out.Bytes(w.Proof.Marks)
	wire.Lay(out, w.Proof.Sides, (*wire.Writer).Digest)
	return out.Done()
}

// Read reads one.
func Read(b []byte) (api.Witness, api.Errno) {
	r := wire.NewReader(b)
	first := r.Byte()
	var w api.Witness
	w.Pairs = wire.List(r, api.MaxWitness/leastPair, takePair)
	w.Proof.Marks = r.Bytes(api.MaxWitness)
	w.Proof.Sides = wire.List(r, api.MaxWitness/len(api.Digest{}), (*wire.Reader).Digest)
	if first != firstByte || r.End() != api.OK || !mayBe(w.Pairs) {
		return api.Witness{}, api.ErrWitnessForm
	}
	return w, api.OK
}

func layPair(w *wire.Writer, p api.Pair) {
	w.Bytes([]byte(p.Key))
	w.Bytes(p.Value)
}

func takePair(r *wire.Reader) api.Pair {
	key := r.Bytes(api.MaxKey)
	return api.Pair{Key: string(key), Value: r.Bytes(api.MaxValue)}
}
