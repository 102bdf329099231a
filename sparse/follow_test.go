package sparse

import (
	"maps"
	"math/rand"
	"slices"
	"testing"

	"causeway/api"
)

func TestP5_8_WhateverTheOrder(t *testing.T) {
	r := rand.New(rand.NewSource(30))
	eachSample(t, func(t *testing.T, all []api.Bound) {
		words := tableOf(all...)
		root, keys := sha.root(words), asks(r, all)[7]
		for range 3 {
			other := slices.Clone(all)
			r.Shuffle(len(other), func(i, j int) { other[i], other[j] = other[j], other[i] })
			m := New()
			for i, b := range other {
				// What is put and taken away meanwhile must leave nothing behind.
				m.Put(flipped(b.Key, 255), drawn(r))
				m.Put(b.Key, drawn(r))
				m.Put(flipped(b.Key, i%256), drawn(r))
				m.Put(b.Key, none)
			}
			for _, b := range other {
				m.Put(b.Key, b.Value)
			}
			for i, b := range other {
				for _, key := range []api.Digest{flipped(b.Key, 255), flipped(b.Key, i%256)} {
					m.Put(key, words[digits(key)])
				}
			}
			wantMap(t, "in another order", m, words)
			wantDigest(t, "Root in another order", m.Root(), root)
			proof, e := m.Prove(keys...)
			wantProof(t, "Prove in another order", proof, e, sha.prove(words, keys...), api.OK)
		}
	})
}

func TestP5_8_EveryOrderOfFour(t *testing.T) {
	all := []api.Bound{bound(k0, v), bound(k1, w), bound(k8, v), bound(keyOf("01"), w)}
	root := sha.root(tableOf(all...))
	var turn func(done, rest []api.Bound)
	turn = func(done, rest []api.Bound) {
		if len(rest) == 0 {
			wantDigest(t, "Root", mapOf(done...).Root(), root)
		}
		for i := range rest {
			turn(append(slices.Clone(done), rest[i]), slices.Delete(slices.Clone(rest), i, i+1))
		}
	}
	turn(nil, all)
}

func TestP5_9_PartAndMapGoAlike(t *testing.T) {
	r := rand.New(rand.NewSource(31))
	eachSample(t, func(t *testing.T, all []api.Bound) {
		for _, keys := range asks(r, all) {
			m := mapOf(all...)
			var known []api.Bound
			for _, key := range keys {
				value, _ := m.Get(key)
				known = append(known, bound(key, value))
			}
			proof, e := m.Prove(keys...)
			wantErr(t, "Prove", e, api.OK)
			p := wantOpen(t, "Open", api.OK, m.Root(), proof, known...)
			wantDigest(t, "Root", p.Root(), m.Root())
			for range min(2*len(keys), 60) {
				key := keys[r.Intn(len(keys))]
				value := []api.Digest{none, v, drawn(r)}[r.Intn(3)]
				m.Put(key, value)
				wantErr(t, "Put", p.Put(key, value), api.OK)
				wantDigest(t, "Root behind Put", p.Root(), m.Root())
			}
			// All are taken away, and the keys beside them are alone.
			for _, key := range keys {
				m.Put(key, none)
				wantErr(t, "Put of noughts", p.Put(key, none), api.OK)
			}
			wantDigest(t, "Root behind all", p.Root(), m.Root())
			for _, key := range keys {
				got, e := p.Get(key)
				wanted, _ := m.Get(key)
				wantDigest(t, "Get", got, wanted)
				wantErr(t, "Get", e, api.OK)
			}
		}
	})
}

// near are keys of which each has others close by.
func near() []api.Digest {
	return rising([]api.Digest{k0, k1, keyOf("001"), keyOf("01"), k8, flipped(k8, 255), keyOf("11")})
}

// piece is what a proof tells of one part and of what is within it.
type piece struct {
	marks []int
	sides []api.Digest
}

// forged are pieces for a part that go along a map's own parts, down to two bits: by each mark, with what the map has there beside it, or any of its keys.
func forged(words table, part string, known []api.Bound) []piece {
	all := []piece{{[]int{0}, nil}, {[]int{1}, nil}}
	for _, b := range words.bounds() {
		all = append(all, piece{[]int{2}, []api.Digest{b.Key, b.Value}})
	}
	left, right := part+"0", part+"1"
	if len(known) == 0 {
		over := func(part string) api.Digest { return sha.over(words, part, within(words.keys(), part)) }
		for _, two := range [][]api.Digest{{over(left), over(right)}, {over(part), none}, {none, over(part)}} {
			all = append(all, piece{[]int{3}, two})
		}
		return all
	}
	if len(part) == 2 {
		return all
	}
	var halves [2][]api.Bound
	for _, b := range known {
		at := digits(b.Key)[len(part)] - '0'
		halves[at] = append(halves[at], b)
	}
	rights := forged(words, right, halves[1])
	for _, l := range forged(words, left, halves[0]) {
		for _, r := range rights {
			all = append(all, piece{slices.Concat([]int{3}, l.marks, r.marks), slices.Concat(l.sides, r.sides)})
		}
	}
	return all
}

func forgeries(words table, known ...api.Bound) []api.Proof {
	var all []api.Proof
	for _, p := range forged(words, "", known) {
		all = append(all, proofOf(p.marks, p.sides...))
	}
	return all
}

func TestP5_10_NothingElseIsTaken(t *testing.T) {
	keys := near()
	taken := 0
	for _, has := range [][]api.Bound{
		nil,
		{bound(k0, v)},
		{bound(k8, w)},
		{bound(k0, v), bound(k8, w)},
		{bound(k0, v), bound(keyOf("01"), w)},
		{bound(k0, v), bound(keyOf("001"), w), bound(keyOf("11"), v)},
	} {
		words := tableOf(has...)
		root := mapOf(has...).Root()
		for _, key := range keys {
			truth := words[digits(key)]
			for _, value := range []api.Digest{none, v, w, k1} {
				for _, proof := range forgeries(words, bound(key, value)) {
					_, e := Open(root, proof, bound(key, value))
					if e == api.OK && value != truth {
						t.Errorf("%x was taken at %x, where %x stands, by %x", value, key, truth, proof)
					}
					if e == api.OK {
						taken++
					}
				}
			}
		}
	}
	if taken < 20 {
		t.Errorf("%d true ones were taken: the test is no good", taken)
	}
}

func TestP5_10_NothingElseIsTakenOfTwo(t *testing.T) {
	words := tableOf(bound(k0, v), bound(k8, w))
	root := sha.root(words)
	for i, one := range near() {
		for _, other := range near()[i+1:] {
			for _, says := range [][2]api.Digest{{v, none}, {none, w}, {v, w}, {w, v}, {none, none}} {
				known := []api.Bound{bound(one, says[0]), bound(other, says[1])}
				right := slices.Equal(known, knownOf(words, one, other))
				for _, proof := range forgeries(words, known...) {
					if _, e := Open(root, proof, known...); e == api.OK && !right {
						t.Errorf("%x was taken by %x", known, proof)
					}
				}
			}
		}
	}
}

// allMaps are all that have none or one of two values at each of some keys.
func allMaps(keys []api.Digest) []table {
	all := []table{{}}
	for _, key := range keys {
		for _, t := range slices.Clone(all) {
			for _, value := range []api.Digest{v, w} {
				with := maps.Clone(t)
				with.put(key, value)
				all = append(all, with)
			}
		}
	}
	return all
}

func TestP5_10_OneRootOneMap(t *testing.T) {
	roots := map[api.Digest]int{}
	all := allMaps([]api.Digest{k0, k1, keyOf("01"), k8, flipped(k8, 255)})
	for i, words := range all {
		root := mapOf(words.bounds()...).Root()
		if at, is := roots[root]; is {
			t.Errorf("two maps have one root: %x and %x", all[at].bounds(), words.bounds())
		}
		roots[root] = i
	}
	if len(all) != 243 {
		t.Errorf("%d maps", len(all))
	}
}

// With a weak digest the promise's other case is at hand: where the second reckoning, which the other tests hold against the program, takes what is not true, or has one root for two maps, it must have digested two unlike texts of one digest, or one whose digest is noughts.

// weak has only some digests, and writes down which texts it has digested.
func weak(values int, seen map[string]api.Digest) hash {
	return func(text []byte) api.Digest {
		d := api.Digest{31: sha(text)[0] % byte(values)}
		seen[string(text)] = d
		return d
	}
}

// excused tells whether the promise's other case holds among some texts, each of 65 bytes.
func excused(t *testing.T, seen map[string]api.Digest) bool {
	t.Helper()
	found := map[api.Digest]int{none: 1}
	for text, d := range seen {
		if len(text) != 65 || text[0] != 2 && text[0] != 3 {
			t.Errorf("a text of another form was digested: %x", text)
		}
		found[d]++
	}
	return slices.Max(slices.Collect(maps.Values(found))) > 1
}

func TestP5_10_UntrueOnesAreTwoTextsOfOneDigest(t *testing.T) {
	r := rand.New(rand.NewSource(32))
	untrue := 0
	for range 6000 {
		words := table{}
		for range r.Intn(4) {
			words.put(near()[r.Intn(7)], []api.Digest{v, w}[r.Intn(2)])
		}
		key := near()[r.Intn(7)]
		known := []api.Bound{bound(key, []api.Digest{none, v, w}[r.Intn(3)])}
		seen := map[string]api.Digest{}
		h := weak(12, seen)
		root := h.root(words)
		if h.open(root, invented(r, known), known...) != api.OK || known[0].Value == words[digits(key)] {
			continue
		}
		untrue++
		if !excused(t, seen) {
			t.Errorf("%x was taken under the root of %x", known, words.bounds())
		}
	}
	if untrue < 20 {
		t.Errorf("%d untrue ones were taken: the test is no good", untrue)
	}
}

func TestP5_10_TwoMapsAreTwoTextsOfOneDigest(t *testing.T) {
	all := allMaps([]api.Digest{k0, keyOf("01"), k8, flipped(k8, 2)})
	alike := 0
	for i, one := range all {
		for _, other := range all[:i] {
			seen := map[string]api.Digest{}
			h := weak(200, seen)
			if h.root(one) != h.root(other) {
				continue
			}
			alike++
			if !excused(t, seen) {
				t.Errorf("%x and %x have one root", one.bounds(), other.bounds())
			}
		}
	}
	if alike < 5 {
		t.Errorf("%d pairs had one root: the test is no good", alike)
	}
}
