package chain

import "causeway/api"

// record is a block, and what came of its operations.
type record struct {
	block   api.Block
	results []api.Result
}

// copiedBlock is the same block in memory of its own.
func copiedBlock(b api.Block) api.Block {
	b.Ops = copied(b.Ops)
	for i := range b.Ops {
		b.Ops[i].Body = copied(b.Ops[i].Body)
		b.Ops[i].Path = copied(b.Ops[i].Path)
	}
	return b
}

// copiedResults are the same results in memory of their own.
func copiedResults(results []api.Result) []api.Result {
	results = copied(results)
	for i := range results {
		results[i].Pays = copied(results[i].Pays)
	}
	return results
}

// copied is the same list in memory of its own.
func copied[T any](list []T) []T {
	return append([]T(nil), list...)
}
