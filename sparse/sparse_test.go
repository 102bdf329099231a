package sparse

import (
	"bytes"
	"maps"
	"math/rand"
	"slices"
	"strings"
	"sync"
	"testing"

	"causeway/api"
)

// The keys and values of the chapter's examples.
var (
	k0 api.Digest
	k1 = api.Digest{31: 1}
	k8 = api.Digest{0: 128}
	v  = sha(nil)
	w  = sha([]byte{1})
)

func bound(key, value api.Digest) api.Bound { return api.Bound{Key: key, Value: value} }

func mapOf(all ...api.Bound) *Map {
	m := New()
	for _, b := range all {
		m.Put(b.Key, b.Value)
	}
	return m
}

func drawn(r *rand.Rand) api.Digest {
	var d api.Digest
	r.Read(d[:])
	return d
}

// flipped is a key with another bit at one place.
func flipped(key api.Digest, bit int) api.Digest {
	key[bit/8] ^= 128 >> (bit % 8)
	return key
}

// boundsBy are bounds of so many drawn keys; beside each key also those that part from it at some bits.
func boundsBy(r *rand.Rand, n int, partAt ...int) []api.Bound {
	var all []api.Bound
	for range n {
		key := drawn(r)
		all = append(all, bound(key, drawn(r)))
		for _, bit := range partAt {
			all = append(all, bound(flipped(key, bit), drawn(r)))
		}
	}
	return all
}

// samples are maps of no key, one, two and some hundred keys, drawn and such as part far down.
func samples() map[string][]api.Bound {
	r := rand.New(rand.NewSource(5))
	all := map[string][]api.Bound{
		"none":            nil,
		"K0":              {bound(k0, v)},
		"K0 K1":           {bound(k0, v), bound(k1, w)},
		"K0 K8":           {bound(k0, v), bound(k8, w)},
		"K0 K1 K8":        {bound(k0, v), bound(k1, w), bound(k8, v)},
		"all ones":        {bound(keyOf(strings.Repeat("1", 256)), v), bound(keyOf(strings.Repeat("1", 255)), w)},
		"value of a key":  {bound(v, v), bound(w, v), bound(sha.one(v, v), w)},
		"one drawn":       boundsBy(r, 1),
		"two drawn":       boundsBy(r, 2),
		"three drawn":     boundsBy(r, 3),
		"ten drawn":       boundsBy(r, 10),
		"hundreds":        boundsBy(r, 300),
		"last bits":       boundsBy(r, 20, 255),
		"last two bits":   boundsBy(r, 3, 254, 255),
		"about the bytes": boundsBy(r, 3, 6, 7, 8, 9, 15, 16, 127, 128, 247, 248),
	}
	var every []int
	for bit := range 256 {
		every = append(every, bit)
	}
	all["every bit"] = boundsBy(r, 1, every...)
	return all
}

// eachSample tries something with every sample, by their names.
func eachSample(t *testing.T, try func(t *testing.T, all []api.Bound)) {
	t.Helper()
	every := samples()
	for _, name := range slices.Sorted(maps.Keys(every)) {
		t.Run(name, func(t *testing.T) { try(t, every[name]) })
	}
}

func wantErr(t *testing.T, what string, got, wanted api.Errno) {
	t.Helper()
	if got != wanted {
		t.Errorf("%s: %d, not %d", what, got, wanted)
	}
}

func wantDigest(t *testing.T, what string, got, wanted api.Digest) {
	t.Helper()
	if got != wanted {
		t.Errorf("%s: %x, not %x", what, got, wanted)
	}
}

func sameProof(one, other api.Proof) bool {
	return bytes.Equal(one.Marks, other.Marks) && slices.Equal(one.Sides, other.Sides)
}

func wantProof(t *testing.T, what string, got api.Proof, e api.Errno, wanted api.Proof, f api.Errno) {
	t.Helper()
	if !sameProof(got, wanted) || e != f {
		t.Errorf("%s: %x, %d, not %x, %d", what, got, e, wanted, f)
	}
}

func boundsOf(m *Map) []api.Bound {
	var all []api.Bound
	for key, value := range m.All() {
		all = append(all, bound(key, value))
	}
	return all
}

// wantMap holds a map against what it must have.
func wantMap(t *testing.T, what string, m *Map, wanted table) {
	t.Helper()
	if m.Len() != len(wanted) {
		t.Errorf("%s: Len %d, not %d", what, m.Len(), len(wanted))
	}
	if !slices.Equal(boundsOf(m), wanted.bounds()) {
		t.Errorf("%s: All tells other keys or values", what)
	}
	for text, value := range wanted {
		if got, is := m.Get(keyOf(text)); got != value || !is {
			t.Errorf("%s: Get of %x: %x, %t, not %x", what, keyOf(text), got, is, value)
		}
	}
	wantDigest(t, what+": Root", m.Root(), sha.root(wanted))
}

func TestErrorsNumbers(t *testing.T) {
	got := []api.Errno{api.ErrSparseZero, api.ErrSparseProof, api.ErrSparseUnknown, api.ErrSparseKeys}
	if !slices.Equal(got, []api.Errno{50, 51, 52, 53}) {
		t.Errorf("errors' numbers: %d", got)
	}
}

func TestP5_1_Empty(t *testing.T) {
	m := New()
	wantMap(t, "New", m, nil)
	for _, key := range []api.Digest{k0, k1, k8, v} {
		if got, is := m.Get(key); got != none || is {
			t.Errorf("Get of an empty map: %x, %t", got, is)
		}
		m.Put(key, none)
		wantMap(t, "behind Put of noughts", m, nil)
	}
}

func TestP5_1_PutAndGet(t *testing.T) {
	eachSample(t, func(t *testing.T, all []api.Bound) {
		m, wanted := New(), table{}
		for _, b := range all {
			if got, is := m.Get(b.Key); got != none || is {
				t.Errorf("Get ahead of Put: %x, %t", got, is)
			}
			m.Put(b.Key, b.Value)
			wanted.put(b.Key, b.Value)
			if got, is := m.Get(b.Key); got != b.Value || !is || m.Len() != len(wanted) {
				t.Errorf("Get behind Put: %x, %t; Len %d", got, is, m.Len())
			}
		}
		wantMap(t, "all", m, wanted)
		for _, b := range all {
			for _, bit := range []int{0, 7, 8, 100, 254, 255} {
				other := flipped(b.Key, bit)
				value, there := wanted[digits(other)]
				if got, is := m.Get(other); got != value || is != there {
					t.Errorf("Get of a key beside: %x, %t", got, is)
				}
			}
		}
	})
}

func TestP5_1_PutInThePlaceAndAway(t *testing.T) {
	r := rand.New(rand.NewSource(1))
	eachSample(t, func(t *testing.T, all []api.Bound) {
		m, wanted := mapOf(all...), tableOf(all...)
		for i, b := range all {
			away := flipped(b.Key, 3+i%200)
			m.Put(away, wanted[digits(away)]) // noughts at a key that is not there; else what is there
			if i%7 == 0 {
				wantMap(t, "behind Put of what stands there", m, wanted)
			}
			value := drawn(r)
			m.Put(b.Key, value)
			wanted.put(b.Key, value)
		}
		wantMap(t, "other values", m, wanted)
		for i, b := range all {
			m.Put(b.Key, none)
			wanted.put(b.Key, none)
			if got, is := m.Get(b.Key); got != none || is || m.Len() != len(wanted) {
				t.Errorf("Get behind Put of noughts: %x, %t; Len %d", got, is, m.Len())
			}
			if len(all) < 50 || i%50 == 0 {
				wantMap(t, "some taken away", m, wanted)
			}
		}
		wantMap(t, "all taken away", m, nil)
	})
}

func TestP5_1_CopiesInTurns(t *testing.T) {
	r := rand.New(rand.NewSource(2))
	all := slices.Concat(boundsBy(r, 12, 255), boundsBy(r, 12, 100))
	copies := []*Map{New()}
	wanted := []table{{}}
	for step := range 600 {
		at := r.Intn(len(copies))
		b := all[r.Intn(len(all))]
		if r.Intn(3) == 0 {
			b.Value = none
		} else if r.Intn(2) == 0 {
			b.Value = drawn(r)
		}
		copies[at].Put(b.Key, b.Value)
		wanted[at].put(b.Key, b.Value)
		if step%60 == 59 {
			copies = append(copies, copies[at].Copy())
			wanted = append(wanted, maps.Clone(wanted[at]))
		}
		if step%20 == 0 {
			for i := range copies {
				wantMap(t, "a copy", copies[i], wanted[i])
			}
		}
	}
	for i := range copies {
		wantMap(t, "a copy at the end", copies[i], wanted[i])
	}
}

func TestP5_1_CopyOfACopy(t *testing.T) {
	first := mapOf(bound(k0, v))
	second := first.Copy()
	third := second.Copy()
	second.Put(k0, none)
	third.Put(k1, w)
	first.Put(k8, v)
	wantMap(t, "the map", first, tableOf(bound(k0, v), bound(k8, v)))
	wantMap(t, "its copy", second, nil)
	wantMap(t, "the copy's copy", third, tableOf(bound(k0, v), bound(k1, w)))
	empty := New().Copy()
	empty.Put(k0, v)
	wantMap(t, "an empty map's copy", empty, tableOf(bound(k0, v)))
}

func TestP5_2_RisingKeysAgain(t *testing.T) {
	eachSample(t, func(t *testing.T, all []api.Bound) {
		every, wanted := mapOf(all...).All(), tableOf(all...).bounds()
		for range 2 {
			var got []api.Bound
			for key, value := range every {
				got = append(got, bound(key, value))
			}
			if !slices.Equal(got, wanted) {
				t.Errorf("All tells other keys or values")
			}
			if !slices.IsSortedFunc(got, func(a, b api.Bound) int { return bytes.Compare(a.Key[:], b.Key[:]) }) {
				t.Errorf("the keys do not rise")
			}
		}
	})
}

func TestP5_2_LeftEarly(t *testing.T) {
	eachSample(t, func(t *testing.T, all []api.Bound) {
		every, wanted := mapOf(all...).All(), tableOf(all...).bounds()
		for stop := 1; stop <= len(wanted); stop += 1 + stop/4 {
			var got []api.Bound
			// Asked by hand: who is told to stop and goes on is seen.
			every(func(key, value api.Digest) bool {
				got = append(got, bound(key, value))
				return len(got) < stop
			})
			if !slices.Equal(got, wanted[:stop]) {
				t.Errorf("left behind %d: %d were told, or others", stop, len(got))
			}
		}
	})
}

func TestP5_2_WithinItself(t *testing.T) {
	all := boundsBy(rand.New(rand.NewSource(3)), 6, 255)
	every, wanted := mapOf(all...).All(), tableOf(all...).bounds()
	outer := 0
	for key, value := range every {
		if bound(key, value) != wanted[outer] {
			t.Errorf("the outer one goes astray at %d", outer)
		}
		inner := 0
		for key, value := range every {
			if bound(key, value) != wanted[inner] {
				t.Errorf("the inner one goes astray at %d", inner)
			}
			inner++
			if inner > outer {
				break
			}
		}
		outer++
	}
	if outer != len(wanted) {
		t.Errorf("%d keys, not %d", outer, len(wanted))
	}
}

func TestP5_2_WhateverIsPutMeanwhile(t *testing.T) {
	r := rand.New(rand.NewSource(4))
	all := boundsBy(r, 20, 255)
	m, wanted := mapOf(all...), tableOf(all...)
	every, was := m.All(), wanted.bounds()
	for range 3 {
		var got []api.Bound
		for key, value := range every {
			got = append(got, bound(key, value))
			for _, b := range []api.Bound{bound(key, drawn(r)), bound(all[r.Intn(len(all))].Key, none), bound(drawn(r), v)} {
				m.Put(b.Key, b.Value)
				wanted.put(b.Key, b.Value)
			}
		}
		if !slices.Equal(got, was) {
			t.Errorf("All tells what was put meanwhile")
		}
		wantMap(t, "behind it", m, wanted)
	}
	empty := New()
	nothing := empty.All()
	empty.Put(k0, v)
	for range nothing {
		t.Errorf("All of an empty map tells a key")
	}
}

func TestP5_3_Leaf(t *testing.T) {
	for _, key := range []api.Digest{k0, k1, k8, v, w} {
		for _, value := range []api.Digest{v, w, k1, k8} {
			got, e := Leaf(key, value)
			wantDigest(t, "Leaf", got, sha.one(key, value))
			wantErr(t, "Leaf", e, api.OK)
		}
		got, e := Leaf(key, none)
		wantDigest(t, "Leaf of noughts", got, none)
		wantErr(t, "Leaf of noughts", e, api.ErrSparseZero)
	}
}

func TestP5_3_Examples(t *testing.T) {
	m := New()
	wantDigest(t, "Root of an empty map", m.Root(), none)
	m.Put(k0, v)
	leaf, _ := Leaf(k0, v)
	wantDigest(t, "Root of K0: V", m.Root(), leaf)
	other := m.Copy()
	other.Put(k8, w)
	wantDigest(t, "Root of K0: V, K8: W", other.Root(), sha.two(sha.one(k0, v), sha.one(k8, w)))
	m.Put(k1, w)
	far := sha.two(sha.one(k0, v), sha.one(k1, w))
	for range 255 {
		far = sha.two(far, none)
	}
	wantDigest(t, "Root of K0: V, K1: W", m.Root(), far)
	m.Put(k1, none)
	wantDigest(t, "the same behind Put(K1, noughts)", m.Root(), leaf)
}

func TestP5_3_Roots(t *testing.T) {
	eachSample(t, func(t *testing.T, all []api.Bound) {
		m, wanted := New(), table{}
		for i, b := range all {
			m.Put(b.Key, b.Value)
			wanted.put(b.Key, b.Value)
			if len(all) < 50 || i%25 == 0 {
				wantDigest(t, "Root", m.Root(), sha.root(wanted))
			}
		}
		wantDigest(t, "Root of all", m.Root(), sha.root(wanted))
	})
}

func TestP5_4_Examples(t *testing.T) {
	two := []api.Bound{bound(k0, v), bound(k8, w)}
	for _, c := range []struct {
		what  string
		has   []api.Bound
		asked []api.Digest
		marks []byte
		sides []api.Digest
	}{
		{"an empty map", nil, nil, []byte{0x00}, nil},
		{"an empty map, K0", nil, []api.Digest{k0}, []byte{0x00}, nil},
		{"K0", two[:1], nil, []byte{0x80}, []api.Digest{k0, v}},
		{"K0, K0", two[:1], []api.Digest{k0}, []byte{0x40}, nil},
		{"K0, K0 and K1", two[:1], []api.Digest{k0, k1}, []byte{0x40}, nil},
		{"K0, K1", two[:1], []api.Digest{k1}, []byte{0x80}, []api.Digest{k0, v}},
		{"K0 and K8", two, nil, []byte{0xc0}, []api.Digest{sha.one(k0, v), sha.one(k8, w)}},
		{"K0 and K8, K0", two, []api.Digest{k0}, []byte{0xd8}, []api.Digest{k8, w}},
		{"K0 and K8, K1", two, []api.Digest{k1}, []byte{0xe8}, []api.Digest{k0, v, k8, w}},
		{"K0 and K8, both", two, []api.Digest{k0, k8}, []byte{0xd4}, nil},
	} {
		got, e := mapOf(c.has...).Prove(c.asked...)
		wantProof(t, c.what, got, e, api.Proof{Marks: c.marks, Sides: c.sides}, api.OK)
	}
}

// asks are rising keys to be asked of a map: none, some that are there, some that are not, both.
func asks(r *rand.Rand, all []api.Bound) [][]api.Digest {
	there := [][]api.Digest{nil, {k0}, {k1}, {k0, k1, k8}, {drawn(r)}}
	for _, some := range []int{1, 2, 5, 40, 100} {
		var keys []api.Digest
		for range some {
			if len(all) > 0 && r.Intn(4) > 0 {
				key := all[r.Intn(len(all))].Key
				keys = append(keys, key)
				if r.Intn(2) == 0 {
					keys = append(keys, flipped(key, []int{0, 1, 7, 8, 99, 253, 254, 255}[r.Intn(8)]))
				}
			} else {
				keys = append(keys, drawn(r))
			}
		}
		there = append(there, rising(keys))
	}
	var every []api.Digest
	for _, b := range all {
		every = append(every, b.Key)
	}
	return append(there, rising(every))
}

// rising are the keys in order, each once.
func rising(keys []api.Digest) []api.Digest {
	keys = slices.Clone(keys)
	slices.SortFunc(keys, func(a, b api.Digest) int { return bytes.Compare(a[:], b[:]) })
	return slices.Compact(keys)
}

func TestP5_4_AgainstTheWords(t *testing.T) {
	r := rand.New(rand.NewSource(6))
	eachSample(t, func(t *testing.T, all []api.Bound) {
		m, words := mapOf(all...), tableOf(all...)
		for _, keys := range asks(r, all) {
			got, e := m.Prove(keys...)
			wantProof(t, "Prove", got, e, sha.prove(words, keys...), api.OK)
		}
		wantMap(t, "behind Prove", m, words)
	})
}

func TestP5_4_KeysThatDoNotRise(t *testing.T) {
	m := mapOf(bound(k0, v), bound(k8, w))
	late := keyOf(strings.Repeat("1", 255))
	for _, keys := range [][]api.Digest{{k0, k0}, {k1, k0}, {k8, k1}, {k0, k1, k1}, {k0, k8, k1}, {k1, k0, k8}, {late, late}, {flipped(late, 255), late}} {
		for _, m := range []*Map{m, New()} {
			got, e := m.Prove(keys...)
			wantProof(t, "Prove", got, e, api.Proof{}, api.ErrSparseKeys)
		}
	}
}

func TestR1_Nil(t *testing.T) {
	var m *Map
	m.Put(k0, v)
	if got, is := m.Get(k0); got != none || is || m.Len() != 0 || m.Root() != none || m.Copy() != nil {
		t.Errorf("a nil map has something")
	}
	for range m.All() {
		t.Errorf("a nil map tells a key")
	}
	proof, e := m.Prove(k0, k0)
	wantProof(t, "Prove of a nil map", proof, e, api.Proof{}, api.ErrArg)
	var p *Part
	got, e := p.Get(k0)
	wantDigest(t, "Get of a nil Part", got, none)
	wantErr(t, "Get of a nil Part", e, api.ErrArg)
	wantErr(t, "Put of a nil Part", p.Put(k0, v), api.ErrArg)
	wantDigest(t, "Root of a nil Part", p.Root(), none)
}

// roomy is the same list with room behind it that must stay as it is; the look tells whether list and room did.
func roomy[T any](list []T, same func(a, b T) bool, spare ...T) ([]T, func() bool) {
	whole := slices.Concat(list, spare)
	was := slices.Clone(whole)
	return whole[:len(list)], func() bool { return slices.EqualFunc(whole, was, same) }
}

func equal[T comparable](a, b T) bool { return a == b }

func TestP5_7_ProveLeavesTheKeys(t *testing.T) {
	r := rand.New(rand.NewSource(7))
	all := boundsBy(r, 10, 255)
	m := mapOf(all...)
	keys, same := roomy(asks(r, all)[7], equal[api.Digest], v, w, k8)
	first, e := m.Prove(keys...)
	wantErr(t, "Prove", e, api.OK)
	if !same() {
		t.Errorf("the keys, or the room behind them, have changed")
	}
	wanted := sha.prove(tableOf(all...), keys...)
	clear(keys)
	second, e := m.Prove(keys[:1]...)
	wantErr(t, "Prove", e, api.OK)
	wantProof(t, "the first one", first, api.OK, wanted, api.OK)
	wantProof(t, "the second one", second, api.OK, sha.prove(tableOf(all...), k0), api.OK)
}

// spoil fills a list and its spare room.
func spoil[T any](list []T, with T) {
	list = list[:cap(list)]
	for i := range list {
		list[i] = with
	}
}

func TestP5_7_ProveAnswersNewMemory(t *testing.T) {
	all := boundsBy(rand.New(rand.NewSource(8)), 30, 255)
	m, words := mapOf(all...), tableOf(all...)
	for _, keys := range [][]api.Digest{nil, {all[0].Key}, {k0}, rising([]api.Digest{all[0].Key, all[1].Key, all[7].Key})} {
		wanted := sha.prove(words, keys...)
		kept, _ := m.Prove(keys...)
		for range 2 {
			got, e := m.Prove(keys...)
			wantProof(t, "Prove", got, e, wanted, api.OK)
			spoil(got.Marks, 0xaa)
			spoil(got.Sides, k8)
			wantProof(t, "one that was answered before", kept, api.OK, wanted, api.OK)
		}
		wantMap(t, "the map", m, words)
	}
}

func TestP5_7_TwoMaps(t *testing.T) {
	all := boundsBy(rand.New(rand.NewSource(9)), 10, 255)
	one, other := mapOf(all...), mapOf(all...)
	for _, b := range all[:10] {
		one.Put(b.Key, none)
	}
	one.Put(k8, v)
	wantMap(t, "the other one", other, tableOf(all...))
	wantMap(t, "the one", one, tableOf(append(all[10:], bound(k8, v))...))
}

func BenchmarkPut(b *testing.B) {
	r := rand.New(rand.NewSource(10))
	all := boundsBy(r, 1000)
	m := mapOf(all...)
	for i := 0; b.Loop(); i++ {
		m.Put(all[i%1000].Key, all[(i+7)%1000].Value)
	}
}

func BenchmarkProve100(b *testing.B) {
	all := boundsBy(rand.New(rand.NewSource(11)), 1000)
	m := mapOf(all...)
	var keys []api.Digest
	for _, x := range all[:100] {
		keys = append(keys, x.Key)
	}
	keys = rising(keys)
	for b.Loop() {
		m.Prove(keys...)
	}
}

// Copies share what they are made of: whoever puts into one must not meet who puts into another, nor who reads.
func TestR5_CopiesSideBySide(t *testing.T) {
	all := boundsBy(rand.New(rand.NewSource(12)), 40, 255)
	m, words := mapOf(all...), tableOf(all...)
	roots := make([]api.Digest, 8)
	var wait sync.WaitGroup
	for i := range roots {
		c := m.Copy()
		wait.Go(func() {
			for _, b := range all[:10+i] {
				c.Put(b.Key, none)
				c.Prove(b.Key)
			}
			roots[i] = c.Root()
		})
	}
	wantMap(t, "the map meanwhile", m, words)
	wait.Wait()
	for i, root := range roots {
		wantDigest(t, "a copy", root, sha.root(tableOf(all[10+i:]...)))
	}
}
