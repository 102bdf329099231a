package store

import (
	"bytes"
	"fmt"
	"maps"
	"math/rand"
	"slices"
	"strings"
	"testing"

	"causeway/api"
	"causeway/sparse"
)

func many(b byte, n int) []byte { return bytes.Repeat([]byte{b}, n) }

func keyOf(b byte, n int) string { return string(many(b, n)) }

func laid(key, value string) api.Change { return api.Change{Key: key, New: []byte(value)} }

func tableOf(x texts) *Table {
	t := NewTable()
	for _, key := range sayRising(x) {
		t.Put(key, []byte(x[key]))
	}
	return t
}

// drawnTexts are so many keys, of which some begin others, and none need be a text.
func drawnTexts(r *rand.Rand, n int) texts {
	x := texts{}
	for len(x) < n {
		x[drawnKey(r, n)] = drawnValue(r)
	}
	return x
}

func drawnKey(r *rand.Rand, n int) string {
	key := make([]byte, 1+r.Intn(3+n/100))
	for i := range key {
		key[i] = []byte{'a', 'b', 0, 0xff, byte(r.Intn(256))}[r.Intn(5)]
	}
	return string(key)
}

func drawnValue(r *rand.Rand) string {
	value := make([]byte, 1+r.Intn([]int{2, 20, 70}[r.Intn(3)]))
	r.Read(value)
	return string(value)
}

// samples are tables of no key, of one and of many.
func samples() map[string]texts {
	r := rand.New(rand.NewSource(70))
	every := texts{}
	for b := range 256 {
		every[string([]byte{byte(b)})] = string([]byte{byte(b)})
	}
	return map[string]texts{
		"none":             {},
		"one":              {"a": "\x01"},
		"two":              {"b": "\x02\x02", "a": "\x01"},
		"beginnings":       {"a": "1", "aa": "2", "aaa": "3", "a\x00": "4", "ab": "5", keyOf('a', 127): "6", keyOf('a', 128): "7"},
		"no texts":         {"\x00": "\x00", "\xff": "\xff", "\xff\xfe": "\x00\x00", "\xc3\x28": "x", "\x00\x00": "y", "\x80": "z"},
		"edges":            {"k": keyOf(7, 4096), keyOf('k', 128): "\x00", keyOf('l', 128): keyOf(0, 4096)},
		"every byte":       every,
		"the same value":   {"a": "v", "b": "v", "c": "v"},
		"a value is a key": {"a": "b", "b": "a"},
		"thirty":           drawnTexts(r, 30),
		"hundreds":         drawnTexts(r, 300),
	}
}

// eachSample tries something with every sample, by their names.
func eachSample(t *testing.T, try func(t *testing.T, x texts)) {
	t.Helper()
	every := samples()
	for _, name := range slices.Sorted(maps.Keys(every)) {
		t.Run(name, func(t *testing.T) { try(t, every[name]) })
	}
}

func brief(x any) string {
	s := fmt.Sprintf("%+q", x)
	if len(s) > 300 {
		s = s[:300] + " .."
	}
	return s
}

func wantErr(t *testing.T, what string, got, wanted api.Errno) {
	t.Helper()
	if got != wanted {
		t.Errorf("%s: %d, not %d", what, got, wanted)
	}
}

func wantValue(t *testing.T, what string, got []byte, e api.Errno, wanted string, f api.Errno) {
	t.Helper()
	if string(got) != wanted || e != f {
		t.Errorf("%s: %s, %d, not %s, %d", what, brief(got), e, brief(wanted), f)
	}
}

func wantFind(t *testing.T, what string, x *Table, key string, wanted string, f api.Errno) {
	t.Helper()
	got, e := x.Find(key)
	wantValue(t, what+": Find "+brief(key), got, e, wanted, f)
}

func wantRoot(t *testing.T, what string, x *Table, wanted texts) {
	t.Helper()
	if got, root := x.Root(), wanted.root(); got != root {
		t.Errorf("%s: Root: %x, not %x", what, got, root)
	}
}

func allOf(x *Table) []api.Pair {
	var pairs []api.Pair
	for key, value := range x.All() {
		pairs = append(pairs, api.Pair{Key: key, Value: value})
	}
	return pairs
}

func samePairs(a, b []api.Pair) bool {
	return slices.EqualFunc(a, b, func(a, b api.Pair) bool { return a.Key == b.Key && bytes.Equal(a.Value, b.Value) })
}

// wantHas holds a table against the keys and values that it must have.
func wantHas(t *testing.T, what string, x *Table, wanted texts) {
	t.Helper()
	if x.Len() != len(wanted) {
		t.Errorf("%s: Len: %d, not %d", what, x.Len(), len(wanted))
	}
	if got := allOf(x); !samePairs(got, wanted.pairs()) {
		t.Errorf("%s: All: %s, not %s", what, brief(got), brief(wanted.pairs()))
	}
	for _, key := range sayRising(wanted) {
		wantFind(t, what, x, key, wanted[key], api.OK)
	}
}

// wantTable holds all that a table tells against what it must have.
func wantTable(t *testing.T, what string, x *Table, wanted texts) {
	t.Helper()
	wantHas(t, what, x, wanted)
	wantRoot(t, what, x, wanted)
	b, e := x.Bytes()
	c, f := wanted.bytes()
	wantValue(t, what+": Bytes", b, e, string(c), f)
}

func TestErrorsNumbers(t *testing.T) {
	got := []api.Errno{api.OK, api.ErrArg, api.ErrWireLong, api.ErrStoreKey, api.ErrStoreValue, api.ErrStoreMark, api.ErrStoreBytes, api.ErrStoreMissing, api.ErrStoreForm}
	if !slices.Equal(got, []api.Errno{0, 1, 30, 70, 71, 72, 73, 74, 75}) {
		t.Errorf("errors' numbers: %d", got)
	}
	if limits := []int{api.MaxKey, api.MaxValue, api.MaxBytes}; !slices.Equal(limits, []int{128, 4096, 1 << 22}) {
		t.Errorf("limits: %d", limits)
	}
}

func TestP7_1_Examples(t *testing.T) {
	x := NewTable()
	wantTable(t, "NewTable", x, nil)
	wantErr(t, "Put b", x.Put("b", []byte{2, 2}), api.OK)
	wantErr(t, "Put a", x.Put("a", []byte{1}), api.OK)
	wantErr(t, "Put of no key", x.Put("", []byte{1}), api.ErrStoreKey)
	wantErr(t, "Put of 129 bytes", x.Put(keyOf('a', 129), []byte{1}), api.ErrStoreKey)
	wantErr(t, "Put of 4097 bytes", x.Put("a", many(1, 4097)), api.ErrStoreValue)
	wantFind(t, "no key", x, "", "", api.ErrStoreKey)
	wantTable(t, "a and b", x, texts{"a": "\x01", "b": "\x02\x02"})
	wantErr(t, "Put of nothing", x.Put("a", nil), api.OK)
	wantTable(t, "b", x, texts{"b": "\x02\x02"})
	wantFind(t, "taken away", x, "a", "", api.OK)
}

// keys are some that may be, and some that may not.
func edgeKeys() []string {
	return []string{"", "k", "\x00", "\xff", "\xc3\x28", keyOf('k', 2), keyOf('k', 127), keyOf('k', 128), keyOf('k', 129), keyOf(0, 128), keyOf(0xff, 129), keyOf('k', 5000)}
}

func edgeValues() []string {
	return []string{"", "v", "\x00", string(many(7, 4095)), string(many(7, 4096)), string(many(7, 4097)), string(many(0, 4097)), string(many(7, 9000))}
}

func TestP7_1_Edges(t *testing.T) {
	for _, ahead := range []texts{{}, {"k": "old", keyOf('k', 128): "older"}} {
		for _, key := range edgeKeys() {
			for _, value := range edgeValues() {
				for _, rooted := range []bool{false, true} {
					x, wanted := tableOf(ahead), maps.Clone(ahead)
					if rooted {
						x.Root()
					}
					what := fmt.Sprintf("Put of %d and %d bytes", len(key), len(value))
					wantErr(t, what, x.Put(key, []byte(value)), wanted.put(key, value))
					wantTable(t, what, x, wanted)
					got, e := wanted.find(key)
					wantFind(t, what, x, key, got, e)
				}
			}
		}
	}
}

func TestP7_1_OtherKeysStay(t *testing.T) {
	eachSample(t, func(t *testing.T, x texts) {
		table := tableOf(x)
		wantTable(t, "all", table, x)
		for _, key := range sayRising(x) {
			for _, other := range []string{key + "\x00", key + "x", key[:len(key)-1], "\x00" + key} {
				got, e := x.find(other)
				wantFind(t, "a key beside", table, other, got, e)
			}
		}
	})
}

func TestP7_1_LaidTakenAwayAndLaidAgain(t *testing.T) {
	eachSample(t, func(t *testing.T, x texts) {
		table, wanted := tableOf(x), maps.Clone(x)
		for i, key := range append(sayRising(x), "never there") {
			if i == 40 {
				break
			}
			for _, value := range []string{"", "", "again", "another", x[key]} {
				wantErr(t, "Put", table.Put(key, []byte(value)), api.OK)
				wanted.put(key, value)
				wantFind(t, "behind Put", table, key, value, api.OK)
				wantRoot(t, "behind Put", table, wanted)
				if table.Len() != len(wanted) {
					t.Errorf("Len: %d, not %d", table.Len(), len(wanted))
				}
			}
		}
		wantTable(t, "at the end", table, wanted)
		for _, key := range sayRising(x) {
			wantErr(t, "Put of nothing", table.Put(key, []byte{}), api.OK)
		}
		wantTable(t, "all taken away", table, nil)
	})
}

func TestP7_2_Examples(t *testing.T) {
	x := NewTable()
	wantErr(t, "Apply", x.Apply(laid("c", "\x03"), laid("", "\x01")), api.ErrStoreKey)
	wantTable(t, "Apply", x, nil)
}

func TestP7_2_Orders(t *testing.T) {
	long := string(many(1, 4097))
	for what, changes := range map[string][]api.Change{
		"none":                       nil,
		"one":                        {laid("a", "9")},
		"one that takes away":        {laid("a", "")},
		"one that is not there":      {laid("x", "")},
		"a key twice":                {laid("c", "1"), laid("c", "2")},
		"a key laid and taken away":  {laid("c", "1"), laid("c", "")},
		"a key taken away and laid":  {laid("a", ""), laid("a", "5"), laid("b", "6")},
		"a key thrice, others ahead": {laid("z", "1"), laid("a", "2"), laid("z", ""), laid("z", "3"), laid("a", "")},
		"wrong Olds":                 {{Key: "a", Old: []byte("no"), New: []byte("9")}, {Key: "x", Old: []byte("never"), New: []byte("9")}, {Key: "b", Old: []byte("no")}},
		"Olds that are too long":     {{Key: "a", Old: []byte(long), New: []byte("9")}, {Key: "b", Old: []byte(long)}},
		"an Old as it is":            {{Key: "a", Old: []byte("1")}},
		"greatest ones":              {laid(keyOf('k', 128), long[1:]), laid("k", long[1:])},
	} {
		for _, rooted := range []bool{false, true} {
			wanted := texts{"a": "1", "b": "2"}
			x := tableOf(wanted)
			if rooted {
				x.Root()
			}
			wantErr(t, what, x.Apply(changes...), wanted.apply(changes...))
			wantTable(t, what, x, wanted)
		}
	}
}

func TestP7_2_FirstErrorAndNothing(t *testing.T) {
	long := string(many(1, 4097))
	bad := []api.Change{laid("", "1"), laid("", long), laid(keyOf('k', 129), ""), laid("a", long), laid("x", long)}
	good := []api.Change{laid("a", "9"), laid("b", ""), laid("c", "3"), laid("c", "4")}
	wanted := texts{"a": "1", "b": "2"}
	for at := range len(good) + 1 {
		for _, first := range bad {
			for _, second := range append(bad, laid("d", "4")) {
				changes := slices.Concat(slices.Insert(slices.Clone(good), at, first), []api.Change{second})
				x := tableOf(wanted)
				want := api.Errno(70)
				if sayKey(first.Key) {
					want = 71
				}
				wantErr(t, "Apply", x.Apply(changes...), want)
				wantTable(t, "a refused Apply", x, wanted)
			}
		}
	}
}

func TestP7_3_RisingKeysAgain(t *testing.T) {
	eachSample(t, func(t *testing.T, x texts) {
		every := tableOf(x).All()
		for range 3 {
			var got []api.Pair
			for key, value := range every {
				got = append(got, api.Pair{Key: key, Value: bytes.Clone(value)})
				spoil(value, 99)
			}
			if !samePairs(got, x.pairs()) {
				t.Errorf("All tells %s, not %s", brief(got), brief(x.pairs()))
			}
		}
	})
}

func TestP7_3_LeftEarly(t *testing.T) {
	eachSample(t, func(t *testing.T, x texts) {
		every, wanted := tableOf(x).All(), x.pairs()
		for stop := 1; stop <= len(wanted); stop += 1 + stop/4 {
			var got []api.Pair
			// Asked by hand: who is told to stop and goes on is seen.
			every(func(key string, value []byte) bool {
				got = append(got, api.Pair{Key: key, Value: value})
				return len(got) < stop
			})
			if !samePairs(got, wanted[:stop]) {
				t.Errorf("left behind %d: %s", stop, brief(got))
			}
		}
	})
}

func TestP7_3_WithinItself(t *testing.T) {
	x := samples()["thirty"]
	every, wanted := tableOf(x).All(), x.pairs()
	outer := 0
	for key, value := range every {
		inner := 0
		for key, value := range every {
			if key != wanted[inner].Key || !bytes.Equal(value, wanted[inner].Value) {
				t.Errorf("the inner one goes astray at %d", inner)
			}
			inner++
			if inner > outer {
				break
			}
		}
		if key != wanted[outer].Key || !bytes.Equal(value, wanted[outer].Value) {
			t.Errorf("the outer one goes astray at %d", outer)
		}
		outer++
	}
	if outer != len(wanted) {
		t.Errorf("%d keys, not %d", outer, len(wanted))
	}
}

func TestP7_3_WhateverIsPutMeanwhile(t *testing.T) {
	eachSample(t, func(t *testing.T, x texts) {
		r := rand.New(rand.NewSource(73))
		table, now := tableOf(x), maps.Clone(x)
		every, wanted := table.All(), x.pairs()
		for range 3 {
			var got []api.Pair
			for key, value := range every {
				got = append(got, api.Pair{Key: key, Value: value})
				changes := []api.Change{laid(key, drawnValue(r)), laid(drawnKey(r, 30), ""), laid(drawnKey(r, 30), drawnValue(r))}
				if last := wanted[len(wanted)-1].Key; r.Intn(2) == 0 {
					changes = append(changes, laid(last, ""))
				}
				now.apply(changes...)
				wantErr(t, "Put", table.Put(changes[0].Key, changes[0].New), api.OK)
				wantErr(t, "Apply", table.Apply(changes[1:]...), api.OK)
			}
			if !samePairs(got, wanted) {
				t.Errorf("All tells what was put meanwhile: %s", brief(got))
			}
		}
		wantTable(t, "behind it", table, now)
	})
	empty := NewTable()
	nothing := empty.All()
	empty.Put("a", []byte{1})
	for key := range nothing {
		t.Errorf("All of an empty table tells %q", key)
	}
}

// mapUnder is the map of chapter 5 under a table's root.
func mapUnder(x texts) *sparse.Map {
	m := sparse.New()
	for _, key := range sayRising(x) {
		m.Put(sha([]byte(key)), sha([]byte(x[key])))
	}
	return m
}

func TestP7_4_Examples(t *testing.T) {
	x := tableOf(texts{"b": "\x02\x02", "a": "\x01"})
	m := sparse.New()
	m.Put(sha([]byte("a")), sha([]byte{1}))
	m.Put(sha([]byte("b")), sha([]byte{2, 2}))
	if x.Root() != m.Root() {
		t.Errorf("Root: %x, not %x", x.Root(), m.Root())
	}
	if NewTable().Root() != (api.Digest{}) {
		t.Errorf("Root of an empty table is not noughts")
	}
	// H("b") begins with the bit 0, H("a") with 1.
	a, b := sha([]byte("a")), sha([]byte("b"))
	one, two := sha([]byte{1}), sha([]byte{2, 2})
	left, right := sha([]byte{2}, b[:], two[:]), sha([]byte{2}, a[:], one[:])
	if want := sha([]byte{3}, left[:], right[:]); x.Root() != want {
		t.Errorf("Root: %x, not %x", x.Root(), want)
	}
	p, e := x.Prove("b", "a", "b")
	q, f := x.Prove("a", "b")
	wantErr(t, "Prove", e, api.OK)
	wantErr(t, "Prove", f, api.OK)
	if !sameProof(p, q) || !bytes.Equal(p.Marks, []byte{0xd4}) || len(p.Sides) != 0 {
		t.Errorf("Prove: %x and %x", p, q)
	}
}

func TestP7_4_Roots(t *testing.T) {
	eachSample(t, func(t *testing.T, x texts) {
		table, wanted := NewTable(), texts{}
		for i, key := range sayRising(x) {
			table.Put(key, []byte(x[key]))
			wanted.put(key, x[key])
			if i%20 < 3 {
				wantRoot(t, "growing", table, wanted)
			}
		}
		wantRoot(t, "all", table, x)
		if table.Root() != mapUnder(x).Root() {
			t.Errorf("Root is not that of the map")
		}
		for i, key := range sayRising(x) {
			table.Put(key, nil)
			wanted.put(key, "")
			if i%20 < 3 {
				wantRoot(t, "shrinking", table, wanted)
				if table.Root() != mapUnder(wanted).Root() {
					t.Errorf("Root behind a taking away is not that of the map")
				}
			}
		}
		wantRoot(t, "nothing", table, nil)
	})
}

func sameProof(a, b api.Proof) bool {
	return bytes.Equal(a.Marks, b.Marks) && slices.Equal(a.Sides, b.Sides)
}

// asks are keys that are asked together: none, those that are there, those that are not, both, in any order and more than once.
func asks(r *rand.Rand, x texts) [][]string {
	keys := sayRising(x)
	all := [][]string{nil, {"not there"}, {"not there", "nor here", "not there"}, {keyOf('n', 128), "n"}, keys}
	if len(keys) > 0 {
		one, other := keys[r.Intn(len(keys))], keys[r.Intn(len(keys))]
		all = append(all, []string{one}, []string{one, other}, []string{other, one, other, one}, []string{one, "not there", other})
	}
	var some []string
	for range 20 {
		some = append(some, drawnKey(r, 30))
		if len(keys) > 0 {
			some = append(some, keys[r.Intn(len(keys))])
		}
	}
	return append(all, some)
}

// digestsOf are the digests of keys, rising, each once.
func digestsOf(keys []string) []api.Digest {
	by := map[string]api.Digest{}
	for _, key := range keys {
		d := sha([]byte(key))
		by[string(d[:])] = d
	}
	var digests []api.Digest
	for _, text := range sayRising(by) {
		digests = append(digests, by[text])
	}
	return digests
}

func TestP7_4_Prove(t *testing.T) {
	r := rand.New(rand.NewSource(74))
	eachSample(t, func(t *testing.T, x texts) {
		for _, keys := range asks(r, x) {
			wanted, e := mapUnder(x).Prove(digestsOf(keys)...)
			wantErr(t, "the map's Prove", e, api.OK)
			for range 3 {
				table := tableOf(x)
				got, e := table.Prove(keys...)
				if !sameProof(got, wanted) || e != api.OK {
					t.Errorf("Prove of %s: %x, %d, not %x", brief(keys), got, e, wanted)
				}
				wantTable(t, "behind Prove", table, x)
				r.Shuffle(len(keys), func(i, j int) { keys[i], keys[j] = keys[j], keys[i] })
			}
		}
	})
}

func TestP7_4_ProveOfWrongKeys(t *testing.T) {
	x := texts{"a": "1", "b": "2"}
	for _, bad := range []string{"", keyOf('k', 129), keyOf(0, 4000)} {
		for _, keys := range [][]string{{bad}, {bad, "a"}, {"a", bad}, {"a", bad, "b"}, {bad, bad}} {
			table := tableOf(x)
			got, e := table.Prove(keys...)
			if !sameProof(got, api.Proof{}) || e != api.ErrStoreKey {
				t.Errorf("Prove of %s: %x, %d", brief(keys), got, e)
			}
			wantTable(t, "a refused Prove", table, x)
		}
	}
}

// Nobody knows two keys of one digest; so a table is told here that its keys had others than they have. Which of two keys of one digest counts is known of all keys alone: the map must be made anew.
func TestP7_4_KeysOfOneDigest(t *testing.T) {
	for what, at := range map[string]string{
		"b has the digest that c has": "c",
		"b has the digest that a has": "a",
	} {
		for _, put := range []api.Change{laid("c", "3"), laid("c", ""), laid("b", "3"), laid("b", "")} {
			x := texts{"a": "1", "b": "2"}
			table := tableOf(x)
			table.digests = sparse.New()
			table.digests.Put(sha([]byte("a")), sha([]byte("1")))
			table.digests.Put(sha([]byte(at)), sha([]byte("2")))
			table.Apply(put)
			x.apply(put)
			wantTable(t, what, table, x)
			table.Put("d", []byte("4"))
			x.put("d", "4")
			wantTable(t, what+", and then", table, x)
		}
	}
}

func TestP7_5_CopiesInTurns(t *testing.T) {
	r := rand.New(rand.NewSource(75))
	copies, wanted := []*Table{NewTable()}, []texts{{}}
	for step := range 1500 {
		at := r.Intn(len(copies))
		key, value := drawnKey(r, 30), drawnValue(r)
		if r.Intn(3) == 0 {
			value = ""
		}
		wantErr(t, "Put", copies[at].Put(key, []byte(value)), wanted[at].put(key, value))
		if r.Intn(4) == 0 {
			wantRoot(t, "in turns", copies[at], wanted[at])
		}
		if step%150 == 149 {
			copies = append(copies, copies[at].Copy())
			wanted = append(wanted, maps.Clone(wanted[at]))
		}
		if step%50 == 0 {
			for i := range copies {
				wantTable(t, "a copy", copies[i], wanted[i])
			}
		}
	}
	for i := range copies {
		wantTable(t, "a copy at the end", copies[i], wanted[i])
	}
}

func TestP7_5_CopyOfACopy(t *testing.T) {
	for _, rooted := range []bool{false, true} {
		first := tableOf(texts{"a": "1"})
		if rooted {
			first.Root()
		}
		second := first.Copy()
		third := second.Copy()
		second.Put("a", nil)
		third.Put("b", []byte("2"))
		first.Put("a", []byte("9"))
		wantTable(t, "the table", first, texts{"a": "9"})
		wantTable(t, "its copy", second, nil)
		wantTable(t, "the copy's copy", third, texts{"a": "1", "b": "2"})
		empty := NewTable()
		other := empty.Copy()
		other.Put("a", []byte("1"))
		wantTable(t, "an empty table", empty, nil)
		wantTable(t, "an empty table's copy", other, texts{"a": "1"})
	}
}

func TestP7_6_Examples(t *testing.T) {
	b, e := NewTable().Bytes()
	wantValue(t, "an empty table", b, e, "\x53\x00", api.OK)
	b, e = tableOf(texts{"b": "\x02\x02", "a": "\x01"}).Bytes()
	wantValue(t, "two keys", b, e, "\x53\x01\x02\x01\x01\x61\x01\x01\x01\x01\x01\x62\x01\x02\x02\x02", api.OK)
	wantRead(t, "an empty table", []byte{0x53, 0}, texts{}, api.OK)
	wantRead(t, "too short", []byte{0x53}, nil, api.ErrStoreBytes)
	wantRead(t, "a value without a byte", []byte{0x53, 1, 1, 1, 1, 0x61, 0}, nil, api.ErrStoreBytes)
	wantRead(t, "no byte 53", nil, nil, api.ErrStoreBytes)
}

func wantRead(t *testing.T, what string, b []byte, wanted texts, f api.Errno) {
	t.Helper()
	x, e := Read(b)
	if e != f || (x == nil) != (e != api.OK) {
		t.Errorf("%s: Read of %s: %d, not %d; a table: %t", what, brief(b), e, f, x != nil)
		return
	}
	if e == api.OK {
		wantHas(t, what+": Read", x, wanted)
		again, e := x.Bytes()
		wantValue(t, what+": Bytes of Read", again, e, string(b), api.OK)
	}
}

// wantReadAsSaid holds Read against the second reckoning.
func wantReadAsSaid(t *testing.T, what string, b []byte) {
	t.Helper()
	wanted, e := sayRead(b)
	wantRead(t, what, b, wanted, e)
}

func TestP7_6_BytesAndNear(t *testing.T) {
	eachSample(t, func(t *testing.T, x texts) {
		b, e := tableOf(x).Bytes()
		wantErr(t, "Bytes", e, api.OK)
		wantRead(t, "its bytes", b, x, api.OK)
		for more := range 256 {
			wantRead(t, "a byte more", append(slices.Clone(b), byte(more)), nil, api.ErrStoreBytes)
		}
		for at := 0; at < len(b); at += 1 + len(b)/200 {
			wantRead(t, "the beginning", b[:at], nil, api.ErrStoreBytes)
			wantReadAsSaid(t, "a byte less", slices.Delete(slices.Clone(b), at, at+1))
			for _, change := range []byte{1, 2, 0x80, 0xff} {
				other := slices.Clone(b)
				other[at] ^= change
				wantReadAsSaid(t, "a byte changed", other)
			}
		}
	})
}

func TestP7_6_EveryFirstByte(t *testing.T) {
	for first := range 256 {
		b := []byte{byte(first), 1, 1, 1, 1, 'a', 1, 1, 7}
		if first == 83 {
			wantRead(t, "83", b, texts{"a": "\x07"}, api.OK)
		} else {
			wantRead(t, "another first byte", b, nil, api.ErrStoreBytes)
		}
	}
}

func pair(key, value string) api.Pair { return api.Pair{Key: key, Value: []byte(value)} }

func TestP7_6_PairsThatNoTableTells(t *testing.T) {
	long := string(many(7, 4097))
	for what, pairs := range map[string][]api.Pair{
		"keys that do not rise":             {pair("b", "1"), pair("a", "2")},
		"the last two do not rise":          {pair("a", "1"), pair("c", "2"), pair("b", "3")},
		"a key ahead of one that begins it": {pair("ab", "1"), pair("a", "2")},
		"a key twice":                       {pair("a", "1"), pair("a", "1")},
		"a key twice, with another value":   {pair("a", "1"), pair("a", "2")},
		"a key twice at the end":            {pair("a", "1"), pair("b", "2"), pair("b", "2")},
		"a value without a byte":            {pair("a", "")},
		"one without a byte in the middle":  {pair("a", "1"), pair("b", ""), pair("c", "2")},
		"one without a byte at the end":     {pair("a", "1"), pair("b", "")},
		"a key without a byte":              {pair("", "1")},
		"no key behind another one":         {pair("a", "1"), pair("", "1")},
		"neither key nor value":             {pair("", "")},
		"a key of 129 bytes":                {pair(keyOf('k', 129), "1")},
		"one of 129 bytes behind another":   {pair("a", "1"), pair(keyOf('k', 129), "1")},
		"a key of 5000 bytes":               {pair(keyOf('k', 5000), "1")},
		"a value of 4097 bytes":             {pair("a", long)},
		"one of 4097 bytes at the end":      {pair("a", "1"), pair("b", long)},
	} {
		wantRead(t, what, listed(pairs...), nil, api.ErrStoreBytes)
	}
	for what, pairs := range map[string][]api.Pair{
		"keys of which one begins the other": {pair("a", "1"), pair("a\x00", "2"), pair("ab", "3"), pair("b", "4")},
		"keys above 127":                     {pair("\x7f", "1"), pair("\x80", "2"), pair("\xff", "3"), pair("\xff\x00", "4")},
		"the greatest":                       {pair(keyOf('k', 127), long[1:]), pair(keyOf('k', 128), long[1:])},
	} {
		wanted := texts{}
		for _, p := range pairs {
			wanted[p.Key] = string(p.Value)
		}
		wantRead(t, what, listed(pairs...), wanted, api.OK)
	}
}

func TestP7_6_FormsOfNumbers(t *testing.T) {
	for what, b := range map[string]string{
		"a nought ahead of the list's number":  "\x53\x02\x00\x01\x01\x01a\x01\x017",
		"a nought as the list's number":        "\x53\x01\x00",
		"a nought ahead of the key's number":   "\x53\x01\x01\x02\x00\x01a\x01\x017",
		"a nought ahead of the value's number": "\x53\x01\x01\x01\x01a\x02\x00\x017",
		"nine bytes":                           "\x53\x09\x00\x00\x00\x00\x00\x00\x00\x00\x01\x01\x01a\x01\x017",
		"2^63":                                 "\x53\x08\x80\x00\x00\x00\x00\x00\x00\x00",
		"2^63 - 1":                             "\x53\x08\x7f\xff\xff\xff\xff\xff\xff\xff",
		"more pairs than there are":            "\x53\x01\x02\x01\x01a\x01\x017",
		"fewer pairs than there are":           "\x53\x00\x01\x01a\x01\x017",
		"a key longer than the bytes":          "\x53\x01\x01\x01\x7fa\x01\x017",
		"a value longer than the bytes":        "\x53\x01\x01\x01\x01a\x01\x027",
	} {
		wantRead(t, what, []byte(b), nil, api.ErrStoreBytes)
	}
}

// full is a table of as many bytes as may be, and so many more.
func full(more int) texts {
	x := texts{}
	for i := range 1020 {
		x[fmt.Sprintf("key%05d", i)] = string(many(byte(i), 4096))
	}
	b := listed(x.pairs()...)
	rest := 1<<22 + more - len(b)
	for i := 0; rest > 0; i++ {
		// Each pair has a key of 2 and 5 bytes, and a value of 3 and some.
		size := min(rest-10, 4000)
		if left := rest - 10 - size; left > 0 && left < 300 {
			size -= 300
		}
		x[fmt.Sprintf("rest%d", i)] = string(many(9, size))
		rest -= 10 + size
	}
	return x
}

func TestP7_6_AsManyBytesAsMayBe(t *testing.T) {
	for _, more := range []int{-1, 0} {
		x := full(more)
		table := tableOf(x)
		b, e := table.Bytes()
		wanted, _ := x.bytes()
		if len(b) != 1<<22+more || !bytes.Equal(b, wanted) || e != api.OK {
			t.Errorf("Bytes: %d bytes, %d", len(b), e)
		}
		again, e := Read(b)
		wantErr(t, "Read", e, api.OK)
		wantHas(t, "Read", again, x)
		if again.Root() != table.Root() {
			t.Errorf("Root of Read")
		}
		for _, other := range [][]byte{append(slices.Clone(b), 0), b[:len(b)-1]} {
			_, e = Read(other)
			wantErr(t, "Read of a byte more, or less", e, api.ErrStoreBytes)
		}
	}
	x := full(1)
	table := tableOf(x)
	for range 2 {
		b, e := table.Bytes()
		wantValue(t, "a byte too many", b, e, "", api.ErrWireLong)
	}
	wantHas(t, "a byte too many", table, x)
	table.Put("more", many(1, 4096))
	b, e := table.Bytes()
	wantValue(t, "many bytes too many", b, e, "", api.ErrWireLong)
	_, e = Read(listed(x.pairs()...))
	wantErr(t, "Read of them", e, api.ErrStoreBytes)
	for _, size := range []int{1 << 22, 1<<22 + 1, 1 << 23} {
		_, e = Read(append([]byte{83}, make([]byte, size-1)...))
		wantErr(t, "Read of a nought and many bytes", e, api.ErrStoreBytes)
	}
}

// shortestKeys are so many keys, rising: all of one byte and of two, and as many of three as are wanted.
func shortestKeys(n int) []string {
	keys := make([]string, 0, n)
	threes := n - 256 - 256*256
	for i := range 256 {
		keys = append(keys, string([]byte{byte(i)}))
		for j := range 256 {
			keys = append(keys, string([]byte{byte(i), byte(j)}))
			for k := 0; k < 256 && threes > 0; k++ {
				keys = append(keys, string([]byte{byte(i), byte(j), byte(k)}))
				threes--
			}
		}
	}
	return keys
}

// As many keys as can be in so many bytes: pairs of 6 bytes, of 7 and of 8.
func TestP7_6_AsManyKeysAsMayBe(t *testing.T) {
	if testing.Short() {
		t.Skip("takes a while")
	}
	most := 256 + 256*256 + (1<<22-1-4-256*6-256*256*7)/8
	for n, wanted := range map[int]api.Errno{most: api.OK, most + 1: api.ErrStoreBytes} {
		var b strings.Builder
		b.Write(append([]byte{83}, number(n)...))
		for _, key := range shortestKeys(n) {
			b.Write(framed(key))
			b.Write([]byte{1, 1, 7})
		}
		x, e := Read([]byte(b.String()))
		wantErr(t, "Read", e, wanted)
		if x.Len() != []int{n, 0}[min(int(e), 1)] {
			t.Errorf("Len: %d, of %d", x.Len(), n)
		}
		if e == api.OK {
			again, e := x.Bytes()
			if string(again) != b.String() || e != api.OK {
				t.Errorf("Bytes of Read: %d bytes, %d", len(again), e)
			}
		}
	}
	// A list of pairs without a byte is longer still.
	for _, n := range []int{(1<<22 - 5) / 6, (1<<22-5)/6 + 1, (1<<22 - 5) / 2} {
		b := append(append([]byte{83}, number(n)...), make([]byte, 2*n)...)
		_, e := Read(b[:min(len(b), 1<<22)])
		wantErr(t, "Read of pairs without a byte", e, api.ErrStoreBytes)
	}
}

// shortOnes tells all rows of some bytes, of up to so many.
func shortOnes(alphabet []byte, most int, tell func(b []byte)) {
	var grow func(b []byte)
	grow = func(b []byte) {
		tell(b)
		if len(b) == most {
			return
		}
		for _, next := range alphabet {
			grow(append(b, next))
		}
	}
	grow(nil)
}

func TestP7_6_AllShortOnes(t *testing.T) {
	taken := 0
	try := func(b []byte) {
		_, wanted := sayRead(b)
		if _, e := Read(b); e != wanted {
			t.Errorf("Read of %x: %d, not %d", b, e, wanted)
		}
		if wanted == api.OK {
			taken++
		}
	}
	shortOnes([]byte{83, 0, 1, 2}, 8, try)
	shortOnes([]byte{0, 1, 2}, 7, func(b []byte) { try(slices.Concat([]byte{83, 1, 1, 1, 1}, b)) })
	shortOnes([]byte{0, 1, 2}, 6, func(b []byte) { try(slices.Concat([]byte{83, 1, 2, 1, 1, 1, 1, 1, 5}, b)) })
	if taken < 20 {
		t.Errorf("only %d were taken: the test is no good", taken)
	}
}
