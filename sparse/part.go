package sparse

import "causeway/api"

// Part is a map of which some keys alone are known.
type Part struct {
	top   *node
	known []api.Bound // each with what stands there now
}

// Get tells the value at a known key (noughts: there is none).
func (p *Part) Get(key api.Digest) (api.Digest, api.Errno) {
	if p == nil {
		return api.Digest{}, api.ErrArg
	}
	at, is := place(p.known, key)
	if !is {
		return api.Digest{}, api.ErrSparseUnknown
	}
	return p.known[at].Value, api.OK
}

// Put lays a value at a known key; noughts take it away.
func (p *Part) Put(key, value api.Digest) api.Errno {
	if p == nil {
		return api.ErrArg
	}
	at, is := place(p.known, key)
	if !is {
		return api.ErrSparseUnknown
	}
	p.known[at].Value = value
	p.top = p.top.put(p.known[at], 0)
	return api.OK
}

// Root is the digest over all now.
func (p *Part) Root() api.Digest {
	if p == nil {
		return api.Digest{}
	}
	return p.top.digest()
}
