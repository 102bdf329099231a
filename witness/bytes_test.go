package witness

import (
	"bytes"
	"slices"
	"strings"
	"testing"

	"causeway/api"
)

// wantBytes writes a witness that fits, by the words too, and reads it again.
func wantBytes(t testing.TB, what string, w api.Witness) []byte {
	t.Helper()
	b, e := Bytes(w)
	if string(b) != inBytes(w) || e != api.OK {
		t.Errorf("%s: %d bytes, %d, not the %d by the words", what, len(b), int(e), len(inBytes(w)))
	}
	back, e := Read(b)
	if !sameWitness(w, back) || e != api.OK {
		t.Errorf("%s: Read of Bytes is another witness, %d", what, int(e))
	}
	return b
}

// wantRead reads bytes, by the words too, and tells whether they are a witness's; then they are written just so.
func wantRead(t testing.TB, what string, b []byte) bool {
	t.Helper()
	w, e := Read(b)
	wanted, good := readOf(b)
	if good != (e == api.OK) || !sameWitness(w, wanted) || !good && e != 131 {
		t.Errorf("%s: Read of %d bytes: %d; by the words: %v", what, len(b), int(e), good)
	}
	if good {
		if again, e := Bytes(w); !bytes.Equal(again, b) || e != api.OK {
			t.Errorf("%s: Bytes of Read are others, %d", what, int(e))
		}
	}
	return good
}

// plain are witnesses of every shape.
func plain(t testing.TB) map[string]api.Witness {
	table, _, has := begin(t)
	all := map[string]api.Witness{
		"nothing":    {},
		"Marks":      {Proof: api.Proof{Marks: []byte{0, 1, 255}}},
		"many Marks": {Proof: api.Proof{Marks: bytes.Repeat([]byte{7}, 70000)}},
		"one side":   {Proof: api.Proof{Sides: []api.Digest{{}}}},
		"many Sides": {Proof: api.Proof{Sides: slices.Repeat([]api.Digest{{1}, {31: 255}}, 150)}},
		"everything": witnessOf(has, keysIn(has)...),
	}
	for name, pairs := range edgePairs() {
		all[name] = api.Witness{Pairs: pairs, Proof: api.Proof{Marks: []byte{5}, Sides: []api.Digest{{6}}}}
	}
	for _, r := range rows(t) {
		all[r.name], _, _ = Record(table, r.entries...)
	}
	var pairs []api.Pair
	for i := range 1000 {
		pairs = append(pairs, api.Pair{Key: eightOf(i), Value: bytes.Repeat([]byte{byte(i)}, i%300)})
	}
	all["many Pairs"] = api.Witness{Pairs: pairs}
	return all
}

func keysIn(has map[string]string) []string {
	var keys []string
	for key := range has {
		keys = append(keys, key)
	}
	return keys
}

func TestP13_4_Bytes(t *testing.T) {
	for name, w := range plain(t) {
		wantBytes(t, name, w)
	}
	for _, x := range []struct {
		w    api.Witness
		text string
	}{
		{api.Witness{}, "W\x00\x00\x00"},
		{api.Witness{Proof: api.Proof{Marks: []byte{0xd8}, Sides: []api.Digest{{1}}}}, "W\x00\x01\x01\xd8\x01\x01\x01" + zeros(31)},
		{api.Witness{Pairs: []api.Pair{{Key: "a"}}}, "W\x01\x01\x01\x01a\x00\x00\x00"},
		{api.Witness{Pairs: []api.Pair{{Key: "a", Value: []byte{9}}, {Key: "ab", Value: []byte{8, 7}}}}, "W\x01\x02\x01\x01a\x01\x01\x09\x01\x02ab\x01\x02\x08\x07\x00\x00"},
	} {
		if b, e := Bytes(x.w); string(b) != x.text || e != api.OK {
			t.Errorf("Bytes of %v: %q, %d, not %q", x.w, b, int(e), x.text)
		}
	}
}

func TestP13_4_PairsThatMayNotBe(t *testing.T) {
	great := api.Proof{Marks: make([]byte, 1<<22)}
	for name, pairs := range badPairs() {
		for _, proof := range []api.Proof{{}, {Marks: []byte{1}, Sides: []api.Digest{{1}}}, great} { // ahead of being too long
			if b, e := Bytes(api.Witness{Pairs: pairs, Proof: proof}); len(b) != 0 || e != 131 {
				t.Errorf("%s: Bytes: %d bytes, %d", name, len(b), int(e))
			}
		}
		// And as bytes, which nobody writes.
		if wantRead(t, name, []byte(inBytes(api.Witness{Pairs: pairs}))) {
			t.Errorf("%s: Read takes them", name)
		}
	}
}

// filled is a witness with Marks of such a number that its bytes are so many.
func filled(t testing.TB, w api.Witness, size int) api.Witness {
	t.Helper()
	w.Proof.Marks = make([]byte, size-len(inBytes(w)))
	over := len(inBytes(w)) - size // by how many bytes the number of Marks is told
	w.Proof.Marks = w.Proof.Marks[over:]
	if got := len(inBytes(w)); got != size {
		t.Fatalf("there are %d bytes, not %d", got, size)
	}
	return w
}

func TestP13_4_HowLong(t *testing.T) {
	if testing.Short() {
		t.Skip("it takes seconds")
	}
	var pairs, small []api.Pair
	for i := range 1000 {
		pairs = append(pairs, api.Pair{Key: eightOf(i), Value: bytes.Repeat([]byte{byte(i)}, 4096)})
	}
	for i := range 200000 {
		small = append(small, api.Pair{Key: eightOf(i)[5:]})
	}
	for name, w := range map[string]api.Witness{
		"Marks":       {},
		"Sides":       {Proof: api.Proof{Sides: slices.Repeat([]api.Digest{{7}}, 131000)}},
		"Pairs":       {Pairs: pairs},
		"small Pairs": {Pairs: small, Proof: api.Proof{Sides: slices.Repeat([]api.Digest{{7}}, 100)}},
	} {
		for _, size := range []int{1<<22 - 1, 1 << 22} {
			fits := filled(t, w, size)
			if b := wantBytes(t, name, fits); len(b) != size || !wantRead(t, name, b) {
				t.Errorf("%s: %d bytes, not %d", name, len(b), size)
			}
		}
		for _, size := range []int{1<<22 + 1, 1<<22 + 32, 1<<22 + 5000, 1 << 23} {
			if b, e := Bytes(filled(t, w, size)); len(b) != 0 || e != 30 {
				t.Errorf("%s: Bytes of %d: %d bytes, %d", name, size, len(b), int(e))
			}
			if wantRead(t, name, []byte(inBytes(filled(t, w, size)))) {
				t.Errorf("%s: Read takes %d bytes", name, size)
			}
		}
	}
	// Too long by what stands last.
	for _, w := range []api.Witness{{Proof: api.Proof{Sides: make([]api.Digest, 1<<17)}}, {Proof: api.Proof{Sides: make([]api.Digest, 1<<18)}}, {Pairs: append(pairs, pairsBehind(30)...)}} {
		if b, e := Bytes(w); len(b) != 0 || e != 30 {
			t.Errorf("Bytes of %d pairs and %d Sides: %d bytes, %d", len(w.Pairs), len(w.Proof.Sides), len(b), int(e))
		}
	}
}

// pairsBehind are Pairs of 4096 bytes each, behind numbers.
func pairsBehind(n int) []api.Pair {
	var pairs []api.Pair
	for i := range n {
		pairs = append(pairs, api.Pair{Key: "z" + eightOf(i), Value: make([]byte, 4096)})
	}
	return pairs
}

func TestP13_4_ReadOthers(t *testing.T) {
	for name, b := range map[string]string{
		"nothing":                       "",
		"the first byte alone":          "W",
		"no Sides":                      "W\x00\x00",
		"another first byte":            "X\x00\x00\x00",
		"a table's first byte":          "S\x00\x00\x00",
		"no first byte":                 "\x00\x00\x00",
		"one byte more":                 "W\x00\x00\x00\x00",
		"a number with nought ahead":    "W\x01\x00\x00\x00",
		"a number of nine bytes":        "W\x09\x01\x00\x00\x00\x00\x00\x00\x00\x00\x00\x00",
		"a number of 2^63":              "W\x08\x80\x00\x00\x00\x00\x00\x00\x00\x00\x00",
		"more Pairs than there are":     "W\x01\x02\x01\x01a\x00\x00\x00",
		"fewer Pairs than there are":    "W\x00\x01\x01a\x00\x00\x00",
		"very many Pairs":               "W\x08\x7f\xff\xff\xff\xff\xff\xff\xff\x01\x01a\x00\x00\x00",
		"a key without a byte":          "W\x01\x01\x00\x00\x00\x00",
		"a key twice":                   "W\x01\x02\x01\x01a\x00\x01\x01a\x00\x00\x00",
		"keys that fall":                "W\x01\x02\x01\x01b\x00\x01\x01a\x00\x00\x00",
		"a key's number in two bytes":   "W\x01\x01\x02\x00\x01a\x00\x00\x00",
		"Marks that are not there":      "W\x00\x01\x02\x07\x00",
		"very many Marks":               "W\x00\x08\x7f\xff\xff\xff\xff\xff\xff\xff\x00",
		"half a side":                   "W\x00\x00\x01\x01" + zeros(31),
		"more Sides than there are":     "W\x00\x00\x01\x02" + zeros(32),
		"very many Sides":               "W\x00\x00\x08\x7f\xff\xff\xff\xff\xff\xff\xff" + zeros(32),
		"a side too many":               "W\x00\x00\x01\x01" + zeros(64),
		"a key of 129 bytes":            "W\x01\x01" + textInForm(strings.Repeat("k", 129)) + "\x00\x00\x00",
		"a value of 4097 bytes":         "W\x01\x01\x01\x01a" + textInForm(zeros(4097)) + "\x00\x00",
		"a value that is not all there": "W\x01\x01\x01\x01a\x01\x05abc",
	} {
		if wantRead(t, name, []byte(b)) {
			t.Errorf("%s: Read takes it", name)
		}
	}
	for _, n := range []int{1<<22 + 1, 1 << 23} {
		if wantRead(t, "noughts", make([]byte, n)) || wantRead(t, "W", []byte("W"+zeros(n-1))) {
			t.Errorf("Read takes %d bytes", n)
		}
	}
	for _, b := range []string{"W\x00\x00\x00", "W\x01\x01" + textInForm(strings.Repeat("k", 128)) + textInForm(zeros(4096)) + "\x00\x00"} {
		if !wantRead(t, "good ones", []byte(b)) {
			t.Errorf("Read does not take %d bytes", len(b))
		}
	}
}

// Of good bytes: each that is cut off, each that is turned, and bytes that are put in and taken out.
func TestP13_4_ReadTurned(t *testing.T) {
	for name, w := range plain(t) {
		b, _ := Bytes(w)
		step := 1
		if len(b) > 3000 {
			step = len(b) / 37
		}
		for at := 0; at < len(b); at += step {
			if wantRead(t, name+", cut", b[:at]) {
				t.Errorf("%s: Read takes the first %d bytes", name, at)
			}
			for _, x := range []byte{1, 2, 128, 255} {
				turned := bytes.Clone(b)
				turned[at] ^= x
				wantRead(t, name+", turned", turned)
			}
			wantRead(t, name+", one less", slices.Delete(bytes.Clone(b), at, at+1))
			wantRead(t, name+", one more", slices.Insert(bytes.Clone(b), at, 0))
		}
		for _, more := range []string{"\x00", "W", zeros(32), string(b)} {
			if wantRead(t, name+", more behind", append(bytes.Clone(b), more...)) {
				t.Errorf("%s: Read takes it with %d bytes more", name, len(more))
			}
		}
	}
}
