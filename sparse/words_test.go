package sparse

import (
	"crypto/sha256"
	"maps"
	"slices"
	"strings"

	"causeway/api"
)

// The second reckoning: keys and parts are texts of the digits 0 and 1, a part's keys are those that begin with its text. Roots go by the words over lists; the parts that a proof looks at are found first and then sorted (a part, all of its left half, all of its right half: that is the order of the texts); the nine faults are looked for in the list of what was heard, one by one. The digest is handed in, so that P5.10 can be tried with one that is weak.

type hash func(text []byte) api.Digest

var sha hash = func(text []byte) api.Digest { return sha256.Sum256(text) }

// one and two are the texts of 65 bytes.
func (h hash) one(key, value api.Digest) api.Digest {
	return h(slices.Concat([]byte{2}, key[:], value[:]))
}

func (h hash) two(left, right api.Digest) api.Digest {
	return h(slices.Concat([]byte{3}, left[:], right[:]))
}

var none api.Digest

// digits are a key's bits.
func digits(key api.Digest) string {
	var s strings.Builder
	for _, b := range key {
		for place := 128; place > 0; place /= 2 {
			s.WriteByte('0' + byte(int(b)/place%2))
		}
	}
	return s.String()
}

// keyOf is the key that begins with some digits, and has 0 behind them.
func keyOf(text string) api.Digest {
	var key api.Digest
	for i, d := range text {
		if d == '1' {
			key[i/8] += 1 << (7 - i%8)
		}
	}
	return key
}

// within are those of some texts that begin with a part's.
func within(keys []string, part string) []string {
	var in []string
	for _, k := range keys {
		if strings.HasPrefix(k, part) {
			in = append(in, k)
		}
	}
	return in
}

// table is a map by the digits of its keys; no value is noughts.
type table map[string]api.Digest

func tableOf(all ...api.Bound) table {
	t := table{}
	for _, b := range all {
		t.put(b.Key, b.Value)
	}
	return t
}

func (t table) put(key, value api.Digest) {
	if value == none {
		delete(t, digits(key))
		return
	}
	t[digits(key)] = value
}

func (t table) keys() []string { return slices.Sorted(maps.Keys(t)) }

func (t table) bounds() []api.Bound {
	var all []api.Bound
	for _, k := range t.keys() {
		all = append(all, api.Bound{Key: keyOf(k), Value: t[k]})
	}
	return all
}

// over is the digest over a part of which these are the keys.
func (h hash) over(t table, part string, keys []string) api.Digest {
	switch len(keys) {
	case 0:
		return none
	case 1:
		return h.one(keyOf(keys[0]), t[keys[0]])
	}
	left, right := part+"0", part+"1"
	return h.two(h.over(t, left, within(keys, left)), h.over(t, right, within(keys, right)))
}

func (h hash) root(t table) api.Digest { return h.over(t, "", t.keys()) }

// prove is a map's proof for some keys.
func (h hash) prove(t table, asked ...api.Digest) api.Proof {
	var ask []string
	for _, k := range asked {
		ask = append(ask, digits(k))
	}
	all := t.keys()
	looked := []string{""}
	for i := 0; i < len(looked); i++ {
		if part := looked[i]; len(within(all, part)) > 1 && len(within(ask, part)) > 0 {
			looked = append(looked, part+"0", part+"1")
		}
	}
	slices.Sort(looked)
	var marks []int
	var sides []api.Digest
	for _, part := range looked {
		keys, in := within(all, part), within(ask, part)
		switch {
		case len(keys) == 0:
			marks = append(marks, 0)
		case len(keys) == 1 && slices.Contains(in, keys[0]):
			marks = append(marks, 1)
		case len(keys) == 1:
			marks = append(marks, 2)
			sides = append(sides, keyOf(keys[0]), t[keys[0]])
		case len(in) > 0:
			marks = append(marks, 3)
		default:
			marks = append(marks, 3)
			sides = append(sides, h.over(t, part+"0", within(keys, part+"0")), h.over(t, part+"1", within(keys, part+"1")))
		}
	}
	return proofOf(marks, sides...)
}

// proofOf lays marks into bytes.
func proofOf(marks []int, sides ...api.Digest) api.Proof {
	b := make([]byte, (len(marks)+3)/4)
	for i, m := range marks {
		b[i/4] += byte(m) * []byte{64, 16, 4, 1}[i%4]
	}
	return api.Proof{Marks: b, Sides: sides}
}

// marksOf are all that the bytes have room for.
func marksOf(marks []byte) []int {
	var all []int
	for _, b := range marks {
		all = append(all, int(b)/64, int(b)/16%4, int(b)/4%4, int(b)%4)
	}
	return all
}

// heard is what a proof tells of one part.
type heard struct {
	mark  int
	asked int         // so many keys that are asked lie in it,
	with  []api.Bound // and these of them are said to have a value
	sides []api.Digest
}

// news is what a proof tells: the parts in its order, which of the cases 1 to 8 hold, and the digest over the whole that comes of it, if it is whole.
type news struct {
	order  []string
	parts  map[string]heard
	faults []int
	root   api.Digest
}

func (h hash) listen(proof api.Proof, known []api.Bound) news {
	n := news{parts: map[string]heard{}}
	marks, sides := marksOf(proof.Marks), proof.Sides
	for wait := []string{""}; len(wait) > 0; {
		part := wait[0]
		wait = wait[1:]
		if len(marks) == 0 {
			n.faults = []int{1}
			return n
		}
		x := heard{mark: marks[0]}
		marks = marks[1:]
		for _, b := range known {
			if strings.HasPrefix(digits(b.Key), part) {
				x.asked++
				if b.Value != none {
					x.with = append(x.with, b)
				}
			}
		}
		if x.mark == 2 || x.mark == 3 && x.asked == 0 {
			if len(sides) < 2 {
				n.faults = []int{1}
				return n
			}
			x.sides, sides = sides[:2], sides[2:]
		} else if x.mark == 3 && len(part) < 256 {
			wait = append([]string{part + "0", part + "1"}, wait...)
		}
		n.parts[part] = x
		n.order = append(n.order, part)
	}
	for _, part := range n.order {
		n.faults = append(n.faults, n.faultsAt(part, known)...)
	}
	if len(sides) > 0 || len(marks) > 3 || slices.Max(append(marks, 0)) > 0 {
		n.faults = append(n.faults, 8)
	}
	slices.Sort(n.faults)
	n.faults = slices.Compact(n.faults)
	if !slices.Contains(n.faults, 3) {
		n.root = h.heardOver(n)
	}
	return n
}

// faultsAt are the cases 2 to 7 at one part.
func (n news) faultsAt(part string, known []api.Bound) []int {
	x := n.parts[part]
	var all []int
	fault := func(number int, holds bool) {
		if holds {
			all = append(all, number)
		}
	}
	fault(2, x.mark == 0 && len(x.with) > 0)
	fault(3, x.mark == 1 && len(x.with) != 1)
	if x.mark == 2 {
		fault(4, !strings.HasPrefix(digits(x.sides[0]), part) || x.sides[1] == none || len(x.with) > 0)
		fault(4, slices.ContainsFunc(known, func(b api.Bound) bool { return b.Key == x.sides[0] }))
	}
	if x.mark == 3 {
		fault(5, len(part) == 256)
		if x.asked > 0 && len(part) < 256 {
			left, right := n.parts[part+"0"].mark, n.parts[part+"1"].mark
			fault(6, left == 0 && right < 3 || right == 0 && left < 3)
		}
		fault(7, x.asked == 0 && x.sides[0] == none && x.sides[1] == none)
	}
	return all
}

// heardOver is the digest over the whole that comes of it: from the last part on, so that halves are there ahead of their part.
func (h hash) heardOver(n news) api.Digest {
	over := map[string]api.Digest{}
	for _, part := range slices.Backward(n.order) {
		x := n.parts[part]
		switch {
		case x.mark == 1:
			over[part] = h.one(x.with[0].Key, x.with[0].Value)
		case x.mark == 2:
			over[part] = h.one(x.sides[0], x.sides[1])
		case x.mark == 3 && x.asked == 0:
			over[part] = h.two(x.sides[0], x.sides[1])
		case x.mark == 3:
			over[part] = h.two(over[part+"0"], over[part+"1"])
		}
	}
	return over[""]
}

// open is what Open must tell.
func (h hash) open(root api.Digest, proof api.Proof, known ...api.Bound) api.Errno {
	for i := 1; i < len(known); i++ {
		if digits(known[i-1].Key) >= digits(known[i].Key) {
			return 53
		}
	}
	if n := h.listen(proof, known); len(n.faults) > 0 || n.root != root {
		return 51
	}
	return 0
}

// rootNow is what a Part's Root must be when these are the values at the known keys.
func (h hash) rootNow(n news, now []api.Bound) api.Digest {
	t, hidden := tableOf(now...), table{}
	for part, x := range n.parts {
		switch {
		case x.mark == 2:
			t.put(x.sides[0], x.sides[1])
		case x.mark == 3 && x.asked == 0:
			hidden[part] = h.two(x.sides[0], x.sides[1])
		}
	}
	return h.overNow("", t, t.keys(), hidden, hidden.keys())
}

func (h hash) overNow(part string, t table, keys []string, hidden table, parts []string) api.Digest {
	if d, is := hidden[part]; is {
		return d
	}
	if len(parts) == 0 {
		return h.over(t, part, keys)
	}
	left, right := part+"0", part+"1"
	return h.two(
		h.overNow(left, t, within(keys, left), hidden, within(parts, left)),
		h.overNow(right, t, within(keys, right), hidden, within(parts, right)))
}
