package letter

import (
	"causeway/api"
	"causeway/wire"
)

// areParts tells whether letters may be the parts of one.
func areParts(parts []api.Letter) bool {
	if !within(len(parts), 1, api.MaxParts) {
		return false
	}
	gas := 0
	for _, part := range parts {
		// A part of several is refused, not gone into: so this ends, even where a list of parts stands in itself.
		if part.Kind == api.LetterMany || Check(part) != api.OK {
			return false
		}
		gas += part.Gas
	}
	return gas <= api.MaxGas
}

func layPart(w *wire.Writer, part api.Letter) {
	w.Bytes(write(part))
}

// takePart takes a part's bytes; if they are no letter's, the part has no kind, and whoever checks the whole refuses it.
func takePart(r *wire.Reader) api.Letter {
	b := r.Bytes(api.MaxBody)
	// The bytes of a part of several are not gone into, however many stand in one another there.
	if len(b) > 0 && b[0] == api.LetterMany {
		return api.Letter{}
	}
	part, _ := Read(b)
	return part
}
