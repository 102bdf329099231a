package sparse

import (
	"maps"
	"math/rand"
	"slices"
	"strconv"
	"testing"

	"causeway/api"
)

// knownOf is what a map has at some keys.
func knownOf(t table, keys ...api.Digest) []api.Bound {
	var known []api.Bound
	for _, key := range keys {
		known = append(known, bound(key, t[digits(key)]))
	}
	return known
}

func wantOpen(t *testing.T, what string, wanted api.Errno, root api.Digest, proof api.Proof, known ...api.Bound) *Part {
	t.Helper()
	p, e := Open(root, proof, known...)
	wantErr(t, what, e, wanted)
	if (p == nil) != (e != api.OK) {
		t.Errorf("%s: a Part beside %d, or none", what, e)
	}
	return p
}

// wantPart holds a Part against the values that stand at its keys, and the root that it must have.
func wantPart(t *testing.T, what string, p *Part, now []api.Bound, root api.Digest) {
	t.Helper()
	for _, b := range now {
		got, e := p.Get(b.Key)
		wantDigest(t, what+": Get", got, b.Value)
		wantErr(t, what+": Get", e, api.OK)
	}
	wantDigest(t, what+": Root", p.Root(), root)
}

func TestP5_5_Examples(t *testing.T) {
	leaf, _ := Leaf(k0, v)
	marks := func(b ...byte) api.Proof { return api.Proof{Marks: b} }
	p := wantOpen(t, "Marks 40, K0: V", api.OK, leaf, marks(0x40), bound(k0, v))
	wantErr(t, "Put(K0, noughts)", p.Put(k0, none), api.OK)
	wantDigest(t, "Root", p.Root(), none)
	wantOpen(t, "Marks 40, K0: W", api.ErrSparseProof, leaf, marks(0x40), bound(k0, w))
	wantOpen(t, "Marks 41", api.ErrSparseProof, leaf, marks(0x41), bound(k0, v))
	wantOpen(t, "Marks 40 and one digest", api.ErrSparseProof, leaf, api.Proof{Marks: []byte{0x40}, Sides: []api.Digest{v}}, bound(k0, v))
	wantOpen(t, "Marks 40 00", api.ErrSparseProof, leaf, marks(0x40, 0x00), bound(k0, v))

	m := mapOf(bound(k0, v), bound(k8, w))
	proof, _ := m.Prove(k0)
	p = wantOpen(t, "K0 of K0 and K8", api.OK, m.Root(), proof, bound(k0, v))
	got, e := p.Get(k1)
	wantDigest(t, "Get(K1)", got, none)
	wantErr(t, "Get(K1)", e, api.ErrSparseUnknown)
	wantErr(t, "Put(K8, V)", p.Put(k8, v), api.ErrSparseUnknown)
	wantErr(t, "Put(K0, noughts)", p.Put(k0, none), api.OK)
	wantDigest(t, "Root", p.Root(), sha.one(k8, w))
}

func TestP5_5_KeysThatDoNotRise(t *testing.T) {
	leaf := sha.one(k0, v)
	for _, known := range [][]api.Bound{
		{bound(k0, v), bound(k0, v)},
		{bound(k0, v), bound(k0, none)},
		{bound(k1, none), bound(k0, v)},
		{bound(k0, v), bound(k8, none), bound(k1, none)},
		{bound(k0, v), bound(k8, none), bound(k8, none)},
	} {
		for _, proof := range []api.Proof{{Marks: []byte{0x40}}, {}, {Marks: []byte{0xff}}, {Marks: []byte{0x40, 0}, Sides: []api.Digest{v}}} {
			wantOpen(t, "keys that do not rise", api.ErrSparseKeys, leaf, proof, known...)
		}
	}
}

func TestP5_5_ProofsOfMaps(t *testing.T) {
	r := rand.New(rand.NewSource(20))
	eachSample(t, func(t *testing.T, all []api.Bound) {
		words := tableOf(all...)
		for _, keys := range asks(r, all) {
			known := knownOf(words, keys...)
			p := wantOpen(t, "a map's proof", api.OK, sha.root(words), sha.prove(words, keys...), known...)
			if p != nil {
				wantPart(t, "a map's Part", p, known, sha.root(words))
			}
		}
	})
}

// chain is marks 3 down to a part of so many bits 0, then the marks from there on, then marks 0 for all right halves that were passed.
func chain(bits int, last ...int) []int {
	var marks []int
	for range bits {
		marks = append(marks, 3)
	}
	return append(append(marks, last...), make([]int, bits)...)
}

// wrapped is a digest with noughts on its right, so many times.
func wrapped(d api.Digest, times int) api.Digest {
	for range times {
		d = sha.two(d, none)
	}
	return d
}

// fault is a proof of which just one of the nine cases holds, and which leads to the root all the same (but where the case itself is that it does not): who leaves out the case takes it.
type fault struct {
	what  string
	root  api.Digest
	marks []int
	sides []api.Digest
	known []api.Bound
}

func faults() map[int][]fault {
	k4, k9 := keyOf("01"), flipped(k8, 255)
	l0, l1, l4, l8, l9 := sha.one(k0, v), sha.one(k1, w), sha.one(k4, w), sha.one(k8, w), sha.one(k9, w)
	is0, not0 := bound(k0, v), bound(k0, none)
	is1, not1 := bound(k1, w), bound(k1, none)
	is8, not8 := bound(k8, w), bound(k8, none)
	return map[int][]fault{
		1: {
			{"no mark at all", none, nil, nil, nil},
			{"no mark at all, a key is asked", none, nil, nil, []api.Bound{not0}},
			{"the last mark, which would be 0", sha.two(sha.two(l0, l4), none), []int{3, 3, 1, 1}, nil, []api.Bound{is0, bound(k4, w)}},
			{"the last digest, which would be noughts", sha.two(v, none), []int{3}, []api.Digest{v}, nil},
			{"both digests", sha.two(none, none), []int{3}, nil, nil},
			{"a value", sha.one(k0, none), []int{2}, []api.Digest{k0}, nil},
			{"a key and a value", sha.one(none, none), []int{2}, nil, []api.Bound{not1}},
		},
		2: {
			{"the whole", none, []int{0}, nil, []api.Bound{is0}},
			{"the whole, of two", none, []int{0}, nil, []api.Bound{not0, is1}},
			{"a half", sha.two(none, sha.two(v, w)), []int{3, 0, 3}, []api.Digest{v, w}, []api.Bound{is0}},
		},
		3: {
			{"none is asked", none, []int{1}, nil, nil},
			{"none is said to have a value", none, []int{1}, nil, []api.Bound{not0}},
			{"none of two", none, []int{1}, nil, []api.Bound{not0, not1}},
			{"two, the first one's digest", l0, []int{1}, nil, []api.Bound{is0, is1}},
			{"two, the last one's digest", l1, []int{1}, nil, []api.Bound{is0, is1}},
			{"two, the digest over both", sha.two(l0, l8), []int{1}, nil, []api.Bound{is0, is8}},
			{"noughts as a value", sha.one(k0, none), []int{1}, nil, []api.Bound{not0}},
			{"a half", sha.two(l0, none), []int{3, 1, 1}, nil, []api.Bound{is0}},
		},
		4: {
			{"another half's key, on the right", sha.two(l0, l1), []int{3, 1, 2}, []api.Digest{k1, w}, []api.Bound{is0}},
			{"another half's key, on the left", sha.two(l9, l8), []int{3, 2, 1}, []api.Digest{k9, w}, []api.Bound{is8}},
			{"a key that is asked", l0, []int{2}, []api.Digest{k0, v}, []api.Bound{not0}},
			{"a key that is asked, of three", l0, []int{2}, []api.Digest{k0, v}, []api.Bound{not0, not1, not8}},
			{"a key that is asked, elsewhere", sha.two(l0, l1), []int{3, 1, 2}, []api.Digest{k1, w}, []api.Bound{is0, not1}},
			{"a value of noughts", sha.one(k0, none), []int{2}, []api.Digest{k0, none}, nil},
			{"a value of noughts, a key is asked", sha.one(k0, none), []int{2}, []api.Digest{k0, none}, []api.Bound{not1}},
			{"a key that is said to have a value lies there", l0, []int{2}, []api.Digest{k0, v}, []api.Bound{is1}},
			{"the key is said to have just that value", l0, []int{2}, []api.Digest{k0, v}, []api.Bound{is0}},
		},
		5: {
			{"no key is asked there", wrapped(sha.two(l0, sha.two(v, w)), 255), chain(255, 3, 1, 3), []api.Digest{v, w}, []api.Bound{is0}},
			{"a key is asked there", wrapped(sha.two(none, none), 256), chain(256, 3), nil, []api.Bound{not0}},
		},
		6: {
			{"0 and 0", sha.two(none, none), []int{3, 0, 0}, nil, []api.Bound{not0}},
			{"0 and 1", sha.two(none, l8), []int{3, 0, 1}, nil, []api.Bound{is8}},
			{"1 and 0", sha.two(l0, none), []int{3, 1, 0}, nil, []api.Bound{is0}},
			{"0 and 2", sha.two(none, l8), []int{3, 0, 2}, []api.Digest{k8, w}, []api.Bound{not0}},
			{"2 and 0", sha.two(l0, none), []int{3, 2, 0}, []api.Digest{k0, v}, []api.Bound{not1}},
			{"in a half", sha.two(sha.two(l0, none), l8), []int{3, 3, 1, 0, 2}, []api.Digest{k8, w}, []api.Bound{is0}},
			{"1 and 0 at the last bit", wrapped(l0, 256), chain(255, 3, 1, 0), nil, []api.Bound{is0}},
			{"2 and 0 at the last bit", wrapped(l0, 256), chain(255, 3, 2, 0), []api.Digest{k0, v}, []api.Bound{not1}},
		},
		7: {
			{"the whole", sha.two(none, none), []int{3}, []api.Digest{none, none}, nil},
			{"a half", sha.two(l0, sha.two(none, none)), []int{3, 1, 3}, []api.Digest{none, none}, []api.Bound{is0}},
		},
		8: {
			{"a mark", l0, []int{1, 1}, nil, []api.Bound{is0}},
			{"a bit, the lowest", l0, []int{1, 0, 0, 1}, nil, []api.Bound{is0}},
			{"a bit, the highest", l0, []int{1, 2, 0, 0}, nil, []api.Bound{is0}},
			{"a byte of noughts", l0, []int{1, 0, 0, 0, 0}, nil, []api.Bound{is0}},
			{"a byte", l0, []int{1, 0, 0, 0, 3}, nil, []api.Bound{is0}},
			{"a bit behind three marks", sha.two(l0, l8), []int{3, 1, 2, 1}, []api.Digest{k8, w}, []api.Bound{is0}},
			{"a byte behind three marks", sha.two(l0, l8), []int{3, 1, 2, 0, 0}, []api.Digest{k8, w}, []api.Bound{is0}},
			{"a bit behind five marks", sha.two(sha.two(l0, l4), none), []int{3, 3, 1, 1, 0, 0, 0, 2}, nil, []api.Bound{is0, bound(k4, w)}},
			{"a digest", l0, []int{1}, []api.Digest{v}, []api.Bound{is0}},
			{"a digest of noughts", none, []int{0}, []api.Digest{none}, nil},
			{"two digests", none, []int{0}, []api.Digest{v, w}, nil},
			{"a digest behind two", l0, []int{2}, []api.Digest{k0, v, v}, []api.Bound{not1}},
		},
		9: {
			{"another one", l1, []int{1}, nil, []api.Bound{is0}},
			{"noughts", none, []int{1}, nil, []api.Bound{is0}},
			{"not noughts", l0, []int{0}, nil, []api.Bound{not0}},
			{"another value", l0, []int{1}, nil, []api.Bound{bound(k0, w)}},
			{"the halves the other way", sha.two(l8, l0), []int{3, 1, 2}, []api.Digest{k8, w}, []api.Bound{is0}},
			{"a bit of it", flipped(l0, 255), []int{1}, nil, []api.Bound{is0}},
		},
	}
}

func TestP5_5_NineCases(t *testing.T) {
	all := faults()
	for number := 1; number <= 9; number++ {
		for _, f := range all[number] {
			what := "case " + strconv.Itoa(number) + ", " + f.what
			proof := proofOf(f.marks, f.sides...)
			n := sha.listen(proof, f.known)
			switch {
			case number == 9 && (len(n.faults) > 0 || n.root == f.root):
				t.Errorf("%s: the test is no good: %d", what, n.faults)
			case number < 9 && !slices.Equal(n.faults, []int{number}):
				t.Errorf("%s: the test is no good: %d", what, n.faults)
			case number != 1 && number != 3 && number != 9 && n.root != f.root:
				t.Errorf("%s: the test is no good: it leads to another root", what)
			}
			wantOpen(t, what, api.ErrSparseProof, f.root, proof, f.known...)
		}
	}
}

// The root is the one to which somebody comes who takes what the proof tells for the keys that are there, and then goes by the rule of a part's digest.
func TestP5_5_RootsOfWhatWouldBeThere(t *testing.T) {
	l0, l8 := sha.one(k0, v), sha.one(k8, w)
	is0, not0, not1 := bound(k0, v), bound(k0, none), bound(k1, none)
	for number, all := range map[int][]fault{
		4: {
			{"noughts beside the whole", none, []int{2}, []api.Digest{k0, none}, nil},
			{"noughts beside the whole, a key is asked", none, []int{2}, []api.Digest{k0, none}, []api.Bound{not1}},
			{"noughts in a half", sha.two(none, sha.two(v, w)), []int{3, 2, 3}, []api.Digest{k0, none, v, w}, []api.Bound{not1}},
			{"noughts in a half, one key in the other", l8, []int{3, 2, 2}, []api.Digest{k0, none, k8, w}, []api.Bound{not1}},
		},
		6: {
			{"0 and 0", none, []int{3, 0, 0}, nil, []api.Bound{not0}},
			{"0 and 1", l8, []int{3, 0, 1}, nil, []api.Bound{bound(k8, w)}},
			{"1 and 0", l0, []int{3, 1, 0}, nil, []api.Bound{is0}},
			{"0 and 2", l8, []int{3, 0, 2}, []api.Digest{k8, w}, []api.Bound{not0}},
			{"2 and 0", l0, []int{3, 2, 0}, []api.Digest{k0, v}, []api.Bound{not1}},
			{"in a half", sha.two(l0, l8), []int{3, 3, 1, 0, 2}, []api.Digest{k8, w}, []api.Bound{is0}},
			{"nothing in a half", sha.two(none, sha.two(v, w)), []int{3, 3, 0, 0, 3}, []api.Digest{v, w}, []api.Bound{not0}},
			{"at the last bit", l0, chain(255, 3, 1, 0), nil, []api.Bound{is0}},
		},
		7: {
			{"the whole", none, []int{3}, []api.Digest{none, none}, nil},
			{"a half", l0, []int{3, 1, 3}, []api.Digest{none, none}, []api.Bound{is0}},
		},
	} {
		for _, f := range all {
			what := "case " + strconv.Itoa(number) + ", " + f.what
			proof := proofOf(f.marks, f.sides...)
			if n := sha.listen(proof, f.known); !slices.Equal(n.faults, []int{number}) {
				t.Errorf("%s: the test is no good: %d", what, n.faults)
			}
			wantOpen(t, what, api.ErrSparseProof, f.root, proof, f.known...)
		}
	}
}

// What is near to the nine cases, but none of them, is taken.
func TestP5_5_NoneOfTheNine(t *testing.T) {
	l0, l8 := sha.one(k0, v), sha.one(k8, w)
	is0, not0, not1 := bound(k0, v), bound(k0, none), bound(k1, none)
	top := chain(255, 3, 2, 1)
	top[len(top)-1] = 2
	for _, f := range []fault{
		{"0, nothing asked", none, []int{0}, nil, nil},
		{"0, none said to have a value", none, []int{0}, nil, []api.Bound{not0, not1}},
		{"1, and another one asked", l0, []int{1}, nil, []api.Bound{is0, not1, bound(k8, none)}},
		{"2, nothing asked", l0, []int{2}, []api.Digest{k0, v}, nil},
		{"2, another one asked", l0, []int{2}, []api.Digest{k0, v}, []api.Bound{not1}},
		{"2, a key and a value of one's own kind", sha.one(v, v), []int{2}, []api.Digest{v, v}, []api.Bound{not0}},
		{"3, the left one is noughts", sha.two(none, v), []int{3}, []api.Digest{none, v}, nil},
		{"3, the right one is noughts", sha.two(v, none), []int{3}, []api.Digest{v, none}, nil},
		{"3, 0 and 3", sha.two(none, sha.two(v, w)), []int{3, 0, 3}, []api.Digest{v, w}, []api.Bound{not0}},
		{"3, 3 and 0", sha.two(sha.two(v, w), none), []int{3, 3, 0}, []api.Digest{v, w}, []api.Bound{bound(k8, none)}},
		{"3, 1 and 2", sha.two(l0, l8), []int{3, 1, 2}, []api.Digest{k8, w}, []api.Bound{is0}},
		{"3, 2 and 2", sha.two(l0, l8), []int{3, 2, 2}, []api.Digest{k0, v, k8, w}, []api.Bound{not1}},
		{"3, 1 and 1", sha.two(l0, l8), []int{3, 1, 1}, nil, []api.Bound{is0, bound(k8, w)}},
		{"at the last bit, 1 and 1", wrapped(sha.two(l0, sha.one(k1, w)), 255), chain(255, 3, 1, 1), nil, []api.Bound{is0, bound(k1, w)}},
		{"at the last bit, 2 and 1, and 2 at the top", sha.two(wrapped(sha.two(l0, sha.one(k1, w)), 254), l8), top, []api.Digest{k0, v, k8, w}, []api.Bound{bound(k1, w)}},
	} {
		proof := proofOf(f.marks, f.sides...)
		if n := sha.listen(proof, f.known); len(n.faults) > 0 || n.root != f.root {
			t.Errorf("%s: the test is no good: %d", f.what, n.faults)
		}
		if p := wantOpen(t, f.what, api.OK, f.root, proof, f.known...); p != nil {
			wantPart(t, f.what, p, f.known, f.root)
		}
	}
}

// A key beside a mark 2 must begin with all bits of its part.
func TestP5_5_WhatLiesInAPart(t *testing.T) {
	r := rand.New(rand.NewSource(21))
	for bits := 1; bits <= 256; bits++ {
		asked := drawn(r)
		beside := flipped(asked, bits-1)
		for bit := bits; bit < 256; bit++ {
			if r.Intn(2) == 0 {
				beside = flipped(beside, bit)
			}
		}
		words := tableOf(bound(asked, v), bound(beside, w))
		proof := sha.prove(words, asked)
		wantOpen(t, "a key in its part", api.OK, sha.root(words), proof, bound(asked, v))
		for _, bit := range []int{0, bits / 2, bits - 2, bits - 1} {
			other := slices.Clone(proof.Sides)
			other[0] = flipped(other[0], max(bit, 0))
			forged := api.Proof{Marks: proof.Marks, Sides: other}
			n := sha.listen(forged, []api.Bound{bound(asked, v)})
			if !slices.Equal(n.faults, []int{4}) {
				t.Errorf("the test is no good at %d of %d bits: %d", bit, bits, n.faults)
			}
			wantOpen(t, "a key that is not", api.ErrSparseProof, n.root, forged, bound(asked, v))
		}
	}
}

// changedProofs are proofs that are not the given one.
func changedProofs(r *rand.Rand, proof api.Proof) map[string][]api.Proof {
	marks, sides := proof.Marks, proof.Sides
	all := map[string][]api.Proof{}
	add := func(what string, marks []byte, sides []api.Digest) {
		all[what] = append(all[what], api.Proof{Marks: marks, Sides: sides})
	}
	for i := range 4 * len(marks) {
		for change := 1; change < 4; change++ {
			other := slices.Clone(marks)
			other[i/4] ^= byte(change << (6 - i%4*2))
			add("a mark changed, or a bit behind the last one", other, sides)
		}
	}
	add("a byte too few", marks[:len(marks)-1], sides)
	add("the first byte too few", marks[1:], sides)
	add("a byte too many", append(slices.Clone(marks), 0), sides)
	add("a byte too many", append(slices.Clone(marks), 0x40), sides)
	add("a byte too many ahead", append([]byte{0}, marks...), sides)
	for i := range sides {
		other := slices.Clone(sides)
		other[i] = flipped(other[i], r.Intn(256))
		add("a digest changed", marks, other)
		other = slices.Clone(sides)
		other[i] = none
		if sides[i] != none {
			add("noughts for a digest", marks, other)
		}
		if i > 0 && sides[i] != sides[i-1] {
			other = slices.Clone(sides)
			other[i], other[i-1] = other[i-1], other[i]
			add("two digests changed about", marks, other)
		}
		add("a digest too few", marks, slices.Delete(slices.Clone(sides), i, i+1))
		add("a digest too many", marks, slices.Insert(slices.Clone(sides), i, sides[i]))
	}
	add("a digest too many", marks, append(slices.Clone(sides), none))
	add("a digest too many", marks, append(slices.Clone(sides), v))
	add("nothing", nil, nil)
	return all
}

func TestP5_5_ChangedProofsOfMaps(t *testing.T) {
	r := rand.New(rand.NewSource(22))
	eachSample(t, func(t *testing.T, all []api.Bound) {
		if len(all) > 60 {
			all = all[:60]
		}
		words := tableOf(all...)
		root := sha.root(words)
		for _, keys := range asks(r, all)[:8] {
			known, proof := knownOf(words, keys...), sha.prove(words, keys...)
			changed := changedProofs(r, proof)
			for _, what := range slices.Sorted(maps.Keys(changed)) {
				proofs := changed[what]
				if len(proofs) > 60 {
					r.Shuffle(len(proofs), func(i, j int) { proofs[i], proofs[j] = proofs[j], proofs[i] })
					proofs = proofs[:60]
				}
				for _, other := range proofs {
					wantOpen(t, what, api.ErrSparseProof, root, other, known...)
				}
			}
			wantOpen(t, "another root", api.ErrSparseProof, flipped(root, r.Intn(256)), proof, known...)
			for i := range min(len(known), 8) {
				other := slices.Clone(known)
				other[i].Value = drawn(r)
				wantOpen(t, "a value that is not there", api.ErrSparseProof, root, proof, other...)
				if known[i].Value != none {
					other[i].Value = none
					wantOpen(t, "none, where there is a value", api.ErrSparseProof, root, proof, other...)
				}
			}
		}
	})
}

// invented is a proof of no map, for keys of which few have many bits in common; now and then with a mark that may not be.
func invented(r *rand.Rand, known []api.Bound) api.Proof {
	var marks []int
	var sides []api.Digest
	var look func(part string, known []api.Bound)
	look = func(part string, known []api.Bound) {
		with := 0
		for _, b := range known {
			if b.Value != none {
				with++
			}
		}
		mark := 3
		switch {
		case r.Intn(40) == 0:
			mark = r.Intn(4)
		case with == 1 && r.Intn(2) == 0:
			mark = 1
		case with == 0:
			mark = []int{0, 2, 3}[r.Intn(3)]
		}
		marks = append(marks, mark)
		switch {
		case mark == 2:
			sides = append(sides, keyOf(part+digits(drawn(r))[len(part):]), drawn(r))
		case mark == 3 && len(known) == 0:
			two := []api.Digest{drawn(r), drawn(r)}
			if at := r.Intn(6); at < 2 {
				two[at] = none
			}
			sides = append(sides, two...)
		case mark == 3 && len(part) < 256:
			var halves [2][]api.Bound
			for _, b := range known {
				at := digits(b.Key)[len(part)] - '0'
				halves[at] = append(halves[at], b)
			}
			look(part+"0", halves[0])
			look(part+"1", halves[1])
		}
	}
	look("", known)
	return proofOf(marks, sides...)
}

// inventedKnown are rising keys, some near to each other, some with values.
func inventedKnown(r *rand.Rand) []api.Bound {
	var keys []api.Digest
	for range r.Intn(6) {
		key := drawn(r)
		if r.Intn(3) > 0 {
			key = keyOf(digits(key)[:r.Intn(5)])
		}
		keys = append(keys, key)
		if r.Intn(4) == 0 {
			keys = append(keys, flipped(key, r.Intn(12)))
		}
	}
	var known []api.Bound
	for _, key := range rising(keys) {
		value := drawn(r)
		if r.Intn(2) == 0 {
			value = none
		}
		known = append(known, bound(key, value))
	}
	return known
}

func TestP5_5_InventedProofs(t *testing.T) {
	r := rand.New(rand.NewSource(23))
	taken, refused := 0, 0
	for range 4000 {
		known := inventedKnown(r)
		proof := invented(r, known)
		n := sha.listen(proof, known)
		wanted := sha.open(n.root, proof, known...)
		p := wantOpen(t, "an invented proof", wanted, n.root, proof, known...)
		if wanted == api.OK {
			taken++
			tryPart(t, r, p, n, known)
		} else {
			refused++
		}
		wantOpen(t, "another root", api.ErrSparseProof, flipped(n.root, r.Intn(256)), proof, known...)
	}
	if taken < 1000 || refused < 1000 {
		t.Errorf("%d were taken, %d refused: the test is no good", taken, refused)
	}
}

// tryPart puts values into a Part, and holds it against the words behind each.
func tryPart(t *testing.T, r *rand.Rand, p *Part, n news, known []api.Bound) {
	t.Helper()
	now := slices.Clone(known)
	wantPart(t, "a Part", p, now, n.root)
	for range 3 * len(now) {
		at := r.Intn(len(now))
		now[at].Value = drawn(r)
		if r.Intn(2) == 0 {
			now[at].Value = none
		}
		wantErr(t, "Put", p.Put(now[at].Key, now[at].Value), api.OK)
		wantPart(t, "a Part behind Put", p, now, sha.rootNow(n, now))
	}
	tryUnknown(t, r, p, n, now)
}

// tryUnknown asks a Part for keys that are not among the known ones.
func tryUnknown(t *testing.T, r *rand.Rand, p *Part, n news, now []api.Bound) {
	t.Helper()
	unknown := []api.Digest{k0, k1, k8, drawn(r)}
	for _, x := range n.parts {
		unknown = append(unknown, x.sides...)
	}
	for _, b := range now {
		unknown = append(unknown, flipped(b.Key, 255), flipped(b.Key, 0))
	}
	root := p.Root()
	for _, key := range unknown {
		if slices.ContainsFunc(now, func(b api.Bound) bool { return b.Key == key }) {
			continue
		}
		got, e := p.Get(key)
		wantDigest(t, "Get of an unknown key", got, none)
		wantErr(t, "Get of an unknown key", e, api.ErrSparseUnknown)
		wantErr(t, "Put at an unknown key", p.Put(key, v), api.ErrSparseUnknown)
		wantErr(t, "Put of noughts at an unknown key", p.Put(key, none), api.ErrSparseUnknown)
	}
	wantPart(t, "behind what was refused", p, now, root)
}

func TestP5_6_PartsOfMaps(t *testing.T) {
	r := rand.New(rand.NewSource(24))
	eachSample(t, func(t *testing.T, all []api.Bound) {
		words := tableOf(all...)
		for _, keys := range asks(r, all)[:8] {
			known, proof := knownOf(words, keys...), sha.prove(words, keys...)
			p := wantOpen(t, "a map's proof", api.OK, sha.root(words), proof, known...)
			tryPart(t, r, p, sha.listen(proof, known), known)
		}
	})
}

// Each shape that a Part's root can have beside one key: the key comes, goes, comes again.
func TestP5_6_BesideOneKey(t *testing.T) {
	k4 := keyOf("01")
	l0, l8 := sha.one(k0, v), sha.one(k8, w)
	hidden := sha.two(v, w)
	for _, c := range []struct {
		what       string
		root       api.Digest
		marks      []int
		sides      []api.Digest
		known      api.Bound
		with, away api.Digest
	}{
		{"nothing", none, []int{0}, nil, bound(k0, none), l0, none},
		{"alone", l0, []int{1}, nil, bound(k0, v), l0, none},
		{"a key in the other half", sha.two(l0, l8), []int{3, 1, 2}, []api.Digest{k8, w}, bound(k0, v), sha.two(l0, l8), l8},
		{"a key in the other half, none here", l8, []int{2}, []api.Digest{k8, w}, bound(k0, none), sha.two(l0, l8), l8},
		{"a key beside the last bit", sha.one(k1, w), []int{2}, []api.Digest{k1, w}, bound(k0, none), wrapped(sha.two(l0, sha.one(k1, w)), 255), sha.one(k1, w)},
		{"hidden ones in the other half", sha.two(l0, hidden), []int{3, 1, 3}, []api.Digest{v, w}, bound(k0, v), sha.two(l0, hidden), sha.two(none, hidden)},
		{"hidden ones in the other half, none here", sha.two(none, hidden), []int{3, 0, 3}, []api.Digest{v, w}, bound(k0, none), sha.two(l0, hidden), sha.two(none, hidden)},
		{"hidden ones two bits down", sha.two(sha.two(l0, hidden), none), []int{3, 3, 1, 3, 0}, []api.Digest{v, w}, bound(k0, v), sha.two(sha.two(l0, hidden), none), sha.two(sha.two(none, hidden), none)},
		{"two keys in the other half", sha.two(l0, sha.two(l8, l8)), []int{3, 1, 3}, []api.Digest{l8, l8}, bound(k0, v), sha.two(l0, sha.two(l8, l8)), sha.two(none, sha.two(l8, l8))},
		{"a key two bits down", sha.two(sha.two(l0, sha.one(k4, w)), none), []int{3, 3, 1, 2, 0}, []api.Digest{k4, w}, bound(k0, v), sha.two(sha.two(l0, sha.one(k4, w)), none), sha.one(k4, w)},
	} {
		p := wantOpen(t, c.what, api.OK, c.root, proofOf(c.marks, c.sides...), c.known)
		if p == nil {
			continue
		}
		wantPart(t, c.what, p, []api.Bound{c.known}, c.root)
		for range 2 {
			wantErr(t, c.what, p.Put(k0, none), api.OK)
			wantPart(t, c.what+", away", p, []api.Bound{bound(k0, none)}, c.away)
			wantErr(t, c.what, p.Put(k0, none), api.OK)
			wantPart(t, c.what+", away twice", p, []api.Bound{bound(k0, none)}, c.away)
			wantErr(t, c.what, p.Put(k0, v), api.OK)
			wantPart(t, c.what+", there", p, []api.Bound{bound(k0, v)}, c.with)
		}
	}
}

func TestP5_7_TwoPartsOfOneProof(t *testing.T) {
	r := rand.New(rand.NewSource(25))
	all := boundsBy(r, 10, 255)
	m, words := mapOf(all...), tableOf(all...)
	keys := rising([]api.Digest{all[0].Key, all[3].Key, all[4].Key, drawn(r)})
	known := knownOf(words, keys...)
	proof, _ := m.Prove(keys...)
	one := wantOpen(t, "the one", api.OK, m.Root(), proof, known...)
	other := wantOpen(t, "the other one", api.OK, m.Root(), proof, known...)
	wantErr(t, "Put", one.Put(keys[0], v), api.OK)
	wantErr(t, "Put", one.Put(keys[1], none), api.OK)
	wantPart(t, "the other one", other, known, sha.root(words))
	wantErr(t, "Put", other.Put(keys[2], w), api.OK)
	n := sha.listen(proof, known)
	now := slices.Clone(known)
	now[0].Value, now[1].Value = v, none
	wantPart(t, "the one", one, now, sha.rootNow(n, now))
	wantMap(t, "the map", m, words)
	m.Put(keys[3], v)
	m.Put(keys[0], none)
	wantPart(t, "the one behind the map's Put", one, now, sha.rootNow(n, now))
}

func TestP5_7_OpenNeitherChangesNorKeeps(t *testing.T) {
	r := rand.New(rand.NewSource(26))
	all := boundsBy(r, 40, 250)
	words := tableOf(all...)
	keys := asks(r, all)[8]
	wanted := sha.prove(words, keys...)
	right := knownOf(words, keys...)
	marks, marksSame := roomy(wanted.Marks, equal[byte], 0xa5, 0x5a)
	sides, sidesSame := roomy(wanted.Sides, equal[api.Digest], v, w)
	known, knownSame := roomy(right, equal[api.Bound], bound(v, w), bound(w, v))
	look := func(what string) {
		if !marksSame() || !sidesSame() || !knownSame() {
			t.Errorf("%s: what was handed in, or the room behind it, has changed", what)
		}
	}
	proof := api.Proof{Marks: marks, Sides: sides}
	wantOpen(t, "another root", api.ErrSparseProof, v, proof, known...)
	look("Open that refuses")
	p := wantOpen(t, "Open", api.OK, sha.root(words), proof, known...)
	look("Open")
	now := slices.Clone(right)
	for i := range now {
		now[i].Value = drawn(r)
		wantErr(t, "Put", p.Put(now[i].Key, now[i].Value), api.OK)
	}
	look("Put")
	root := sha.rootNow(sha.listen(wanted, right), now)
	spoil(marks, 0xff)
	spoil(sides, k8)
	spoil(known, bound(k8, k8))
	wantPart(t, "behind what became of the lists", p, now, root)
	now[0].Value = none
	wantErr(t, "Put", p.Put(now[0].Key, none), api.OK)
	wantPart(t, "and behind Put", p, now, sha.rootNow(sha.listen(wanted, right), now))
}

// FuzzAgainstTheWords holds Open against the second reckoning, of any marks and some digests, and then Prove's proofs.
func FuzzAgainstTheWords(f *testing.F) {
	f.Add([]byte{0x40}, []byte{0}, []byte{1})
	f.Add([]byte{0xd8}, []byte{0, 200}, []byte{3, 0})
	f.Add([]byte{0xf8, 0x00}, []byte{1, 2, 3, 4, 5, 6}, []byte{7, 9, 9})
	f.Fuzz(func(t *testing.T, marks, sides, asked []byte) {
		if len(marks) > 40 || len(sides) > 24 || len(asked) > 24 {
			return // longer ones take long, and tell nothing new
		}
		// Each byte is one of some keys, values and digests, so that they meet now and then.
		some := func(b byte) api.Digest {
			if b >= 250 {
				return sha([]byte{b})
			}
			return flipped(api.Digest{0: b << 4}, 248+int(b>>4)%8)
		}
		proof := api.Proof{Marks: marks}
		for _, b := range sides {
			proof.Sides = append(proof.Sides, some(b))
		}
		var known []api.Bound
		words := table{}
		for i, b := range asked {
			value := none
			if i%2 == 0 {
				value = sha([]byte{b})
			}
			known = append(known, bound(some(b), value))
			words.put(some(b), value)
		}
		wantOpen(t, "as it comes", sha.open(v, proof, known...), v, proof, known...)
		known = nil
		for i, key := range rising(append(proof.Sides, some(7))) {
			known = append(known, bound(key, []api.Digest{none, v, w}[i%3]))
		}
		n := sha.listen(proof, known)
		p := wantOpen(t, "with its root", sha.open(n.root, proof, known...), n.root, proof, known...)
		if p != nil {
			tryPart(t, rand.New(rand.NewSource(1)), p, n, known)
		}
		var keys []api.Digest
		for _, b := range known {
			keys = append(keys, b.Key)
		}
		m := mapOf(words.bounds()...)
		proof, e := m.Prove(keys...)
		wantProof(t, "Prove", proof, e, sha.prove(words, keys...), api.OK)
		wantOpen(t, "of the map", api.OK, m.Root(), proof, knownOf(words, keys...)...)
	})
}

func BenchmarkOpen100(b *testing.B) {
	all := boundsBy(rand.New(rand.NewSource(27)), 1000)
	words := tableOf(all...)
	var keys []api.Digest
	for _, x := range all[:100] {
		keys = append(keys, x.Key)
	}
	keys = rising(keys)
	root, proof, known := sha.root(words), sha.prove(words, keys...), knownOf(words, keys...)
	for b.Loop() {
		Open(root, proof, known...)
	}
}
