package witness

import (
	"bytes"
	"fmt"
	"maps"
	"math"
	"slices"
	"strings"
	"testing"

	"causeway/api"
	"causeway/exec"
	"causeway/outbox"
	"causeway/store"
)

func TestErrorsNumbers(t *testing.T) {
	for e, n := range map[api.Errno]int{
		api.OK: 0, api.ErrArg: 1, api.ErrWitnessMany: 130, api.ErrWitnessForm: 131, api.ErrWitnessProof: 132, api.ErrWitnessShort: 133, api.ErrWitnessState: 134,
		api.ErrWireLong: 30, api.ErrStoreMissing: 74, api.ErrStoreForm: 75, api.ErrTicketFull: 92, api.ErrExecIndex: 120, api.ErrExecEntry: 121, api.ErrExecFull: 126,
	} {
		if int(e) != n {
			t.Errorf("an error has the number %d, not %d", int(e), n)
		}
	}
	if api.MaxReplay != 32 || api.MaxWitness != 1<<22 || api.MaxBytes != api.MaxWitness || api.MaxKey != 128 || api.MaxValue != 4096 || api.MaxCount != full {
		t.Errorf("a limit is another one")
	}
}

// The chapter's examples, row by row.
func TestExamples(t *testing.T) {
	s, r := ann(), bob()
	table := exec.Genesis(zed())
	c, _ := exec.Commit(table)
	e := api.Entry{Kind: api.EntryDeposit, Sender: s, Token: 3, To: r, Amount: of(5), Gas: 100}
	w, d, code := Record(table, e)
	k := ticketKey(1)
	if keys := []string{k, "ne", "nt", tokenKey(3)}; code != api.OK || !sameWitness(w, witnessOf(inTable(table), keys...)) || len(w.Pairs) != 4 || slices.ContainsFunc(w.Pairs, func(p api.Pair) bool { return len(p.Value) > 0 }) {
		t.Errorf("the Pairs are %q, %d", w.Pairs, int(code))
	}
	ticket := zeros(8) + string(s[:]) + "\x03" + string(r[:]) + wideText(5)
	laid := with(inTable(table), k, ticket, "ne", eightOf(1), "nt", eightOf(1))
	if wanted := (api.Commit{Count: 1, State: rootOf(laid), Outbox: c.Outbox}); d != wanted {
		t.Errorf("the commit is %v, not %v", d, wanted)
	}
	if got := replayedOf(Replay(c, w, e)); got != (replayed{d, api.OK}) {
		t.Errorf("Replay: %v", got)
	}
	less := witnessOf(inTable(table), k, "ne", tokenKey(3))
	valued := copyOf(w)
	valued.Pairs[2].Value = []byte(eightOf(1))
	turned := copyOf(w)
	turned.Pairs[0], turned.Pairs[1] = turned.Pairs[1], turned.Pairs[0]
	wantRefused(t, "without nt", 133, c, less, e)
	wantRefused(t, "with a value at nt", 132, c, valued, e)
	wantRefused(t, "Count 1", 134, api.Commit{Count: 1, State: c.State, Outbox: c.Outbox}, w, e)
	wantRefused(t, "33 entries", 130, c, w, slices.Repeat([]api.Entry{e}, 33)...)
	wantRefused(t, "ne and K changed about", 131, c, turned, e)
	wantRefused(t, "the kind 3", 134, c, w, api.Entry{Kind: 3})
	if got := wantRecord(t, "the kind 3", table, api.Entry{Kind: 3}); got.code != 121 {
		t.Errorf("Record of the kind 3: %d", int(got.code))
	}
	if b, code := Bytes(api.Witness{Proof: api.Proof{Marks: []byte{0}}}); !bytes.Equal(b, []byte{87, 0, 1, 1, 0, 0}) || code != api.OK {
		t.Errorf("Bytes: %v, %d", b, int(code))
	}
	if w, code := Read([]byte{87, 0, 0, 0}); !isEmpty(w) || code != api.OK {
		t.Errorf("Read(87 0 0 0): %v, %d", w, int(code))
	}
	if w, code := Read([]byte{87, 0, 0}); !isEmpty(w) || code != 131 {
		t.Errorf("Read(87 0 0): %v, %d", w, int(code))
	}
}

func TestR1_NoTable(t *testing.T) {
	good := depositOf(3, bob(), 5, 100)
	for _, entries := range [][]api.Entry{nil, {good}, {{Kind: 3}}, slices.Repeat([]api.Entry{good}, 33)} {
		if got := recordedOf(Record(nil, entries...)); got.code != api.ErrArg || got.commit != (api.Commit{}) || !isEmpty(got.witness) {
			t.Errorf("Record of %d entries without a table: %s", len(entries), got)
		}
	}
}

func TestP13_1_HowMany(t *testing.T) {
	table, _, has := begin(t)
	good := depositOf(3, bob(), 5, 100)
	for n, wanted := range map[int]api.Errno{0: 130, 1: 0, 2: 0, 31: 0, 32: 0, 33: 130, 34: 130, 1000: 130} {
		if got := wantRecord(t, "so many", table, slices.Repeat([]api.Entry{good}, n)...); got.code != wanted {
			t.Errorf("Record of %d entries: %d", n, int(got.code))
		}
	}
	// Ahead of what stands in the table, and of what the entries are.
	for _, table := range []*store.Table{table, store.NewTable(), tableWith(t, with(has, "ne", "?"))} {
		for _, entries := range [][]api.Entry{nil, {}, make([]api.Entry, 33)} {
			if got := wantRecord(t, "too many or none", table, entries...); got.code != 130 {
				t.Errorf("Record of %d entries: %d", len(entries), int(got.code))
			}
		}
	}
}

func TestP13_1_TheCount(t *testing.T) {
	_, _, has := begin(t)
	entry := depositOf(5, bob(), 5, 100)
	for _, x := range []struct {
		count string
		one   api.Errno // of one entry, and of two
		two   api.Errno
	}{
		{"", 0, 0}, {eightOf(1), 0, 0}, {eightOf(255), 0, 0}, {eightOf(256), 0, 0}, {eightOf(full - 2), 0, 0}, {eightOf(full - 1), 0, 126}, {eightOf(full), 126, 126},
		{eightOf(0), 75, 75}, {eightOf(full + 1), 75, 75}, {"\x01", 75, 75}, {zeros(6) + "\x01", 75, 75}, {zeros(8) + "\x01", 75, 75}, {"\x01" + eightOf(1), 75, 75},
		{"\x80" + zeros(7), 75, 75}, {"\x80" + eightOf(5)[1:], 75, 75}, {strings.Repeat("\xff", 8), 75, 75}, {strings.Repeat("\x01", 4096), 75, 75}, {zeros(4088) + eightOf(1), 75, 75},
		{eightOf(1) + eightOf(1), 75, 75},
	} {
		table := tableWith(t, with(has, "ne", x.count))
		if got := wantRecord(t, "one entry", table, entry); got.code != x.one {
			t.Errorf("Record at the count %x: %d, not %d", x.count, int(got.code), int(x.one))
		}
		if got := wantRecord(t, "two entries", table, entry, entry); got.code != x.two {
			t.Errorf("Record of two at the count %x: %d, not %d", x.count, int(got.code), int(x.two))
		}
		// The count is asked ahead of the entries.
		first := api.ErrExecEntry
		if x.one == 75 {
			first = 75
		}
		if got := wantRecord(t, "what is no entry", table, api.Entry{}, entry); got.code != first {
			t.Errorf("Record of what is no entry at the count %x: %d, not %d", x.count, int(got.code), int(first))
		}
	}
}

// The first entry that is refused tells its error, at whatever place.
func TestP13_1_RefusedEntries(t *testing.T) {
	table, _, has := begin(t)
	good := call(t, ann(), move(3, bob(), 1))
	noEntry := api.Entry{Kind: 3}
	for _, n := range []int{1, 2, 3, 7, 32} {
		for _, at := range []int{0, n / 2, n - 1} {
			entries := slices.Repeat([]api.Entry{good}, n)
			entries[at] = noEntry
			if got := wantRecord(t, "no entry", table, entries...); got.code != 121 {
				t.Errorf("Record of %d with what is no entry at %d: %d", n, at, int(got.code))
			}
		}
	}
	for _, x := range []struct {
		name  string
		turn  []string
		entry api.Entry
		code  api.Errno
	}{
		{"a token of no form", []string{tokenKey(3), "?"}, good, 75},
		{"a balance of no form", []string{balanceKey(3, bob()), "?"}, good, 75},
		{"an outbox of no form", []string{"o", "?"}, call(t, ann(), burn(3, bob(), 1)), 75},
		{"no admin", []string{"a", ""}, call(t, zed(), tokened(api.LetterToken, 5)), 75},
		{"tickets of no form", []string{"nt", "?"}, depositOf(5, bob(), 1, 100), 75},
		{"no ticket is left", []string{"nt", eightOf(full)}, depositOf(5, bob(), 1, 100), 92},
	} {
		table := tableWith(t, with(has, x.turn...))
		unlike := call(t, cyd(), calling(1, 0, 50, 8)) // touches nothing of that
		for _, entries := range [][]api.Entry{{x.entry}, {unlike, x.entry}, {unlike, x.entry, noEntry}} {
			if got := wantRecord(t, x.name, table, entries...); got.code != x.code {
				t.Errorf("%s: Record is refused with %d", x.name, int(got.code))
			}
		}
		if got := wantRecord(t, x.name, table, unlike, noEntry, x.entry); got.code != 121 {
			t.Errorf("%s: behind what is no entry Record is refused with %d", x.name, int(got.code))
		}
	}
}

// Commit's refusal: an outbox that no entry touches, but that is not of its form.
func TestP13_1_CommitRefuses(t *testing.T) {
	_, _, has := begin(t)
	entry := call(t, ann(), move(3, bob(), 1))
	for _, box := range []string{"?", eightOf(1), eightOf(0), eightOf(3) + sha("one"), eightOf(full+1) + sha("one"), eightOf(1) + sha("one") + "?", strings.Repeat("\xff", 40)} {
		table := tableWith(t, with(has, "o", box))
		if got := wantRecord(t, "an outbox of no form", table, entry); got.code != 75 {
			t.Errorf("Record with the outbox %x: %d", box, int(got.code))
		}
		// An entry that is refused comes first.
		if got := wantRecord(t, "an outbox of no form", table, api.Entry{}); got.code != 121 {
			t.Errorf("Record of what is no entry with the outbox %x: %d", box, int(got.code))
		}
	}
	for _, box := range []string{"", eightOf(1) + sha("one"), eightOf(full) + sha("one"), eightOf(7) + sha("1") + sha("2") + sha("3")} {
		if got := wantRecord(t, "another outbox", tableWith(t, with(has, "o", box)), entry); got.code != 0 {
			t.Errorf("Record with the outbox %x: %d", box, int(got.code))
		}
	}
}

// The Pairs are just the keys that are touched, with the values ahead; the commit is that of a table on which all was run.
func TestP13_1_PairsAndCommit(t *testing.T) {
	table, _, has := begin(t)
	for _, r := range rows(t) {
		got := wantRecord(t, r.name, table, r.entries...)
		if got.code != api.OK {
			t.Errorf("%s: Record is refused with %d", r.name, int(got.code))
		}
		if wanted := slices.Sorted(slices.Values(append([]string{"ne"}, r.keys...))); r.keys != nil && !slices.Equal(keysOf(got.witness), wanted) {
			t.Errorf("%s: the keys are %q, not %q", r.name, keysOf(got.witness), wanted)
		}
		for _, p := range got.witness.Pairs {
			if string(p.Value) != has[p.Key] {
				t.Errorf("%s: at %q there is %x, not %x", r.name, p.Key, p.Value, has[p.Key])
			}
		}
		behind := table.Copy()
		for i, entry := range r.entries {
			if _, _, e := exec.Run(behind, 16+i, entry); e != api.OK {
				t.Fatalf("%s: Run: %d", r.name, int(e))
			}
		}
		if c, e := exec.Commit(behind); got.commit != c || e != api.OK || c.Count != 16+len(r.entries) {
			t.Errorf("%s: the commit is %v, not %v", r.name, got.commit, c)
		}
	}
}

func keysOf(w api.Witness) []string {
	var keys []string
	for _, p := range w.Pairs {
		keys = append(keys, p.Key)
	}
	return keys
}

// Record is asked twice of one table, and of tables that hold the same but came to it otherwise.
func TestP13_1_TheTableStays(t *testing.T) {
	table, c, has := begin(t)
	for _, r := range rows(t) {
		first := recordedOf(Record(table, r.entries...))
		again := recordedOf(Record(table, r.entries...))
		other := recordedOf(Record(tableWith(t, has), r.entries...))
		for _, x := range []recorded{again, other} {
			if !sameWitness(first.witness, x.witness) || first.commit != x.commit || x.code != api.OK {
				t.Errorf("%s: Record is %s, and then %s", r.name, first, x)
			}
		}
		now, e := exec.Commit(table)
		if !maps.Equal(inTable(table), has) || now != c || e != api.OK {
			t.Fatalf("%s: the table has turned", r.name)
		}
	}
}

func TestP13_2_HowMany(t *testing.T) {
	table, c, has := begin(t)
	good := depositOf(3, bob(), 5, 100)
	w := witnessOf(has, "ne", tokenKey(3), balanceKey(3, bob()))
	for n, wanted := range map[int]api.Errno{0: 130, 1: 0, 2: 0, 31: 0, 32: 0, 33: 130, 1000: 130} {
		entries := slices.Repeat([]api.Entry{good}, n)
		if got := wantReplay(t, "so many", c, w, entries...); got.code != wanted {
			t.Errorf("Replay of %d entries: %d", n, int(got.code))
		} else if told := recordedOf(Record(table, entries...)); got.commit != told.commit {
			t.Errorf("Replay of %d entries is %v, not %v", n, got.commit, told.commit)
		}
	}
}

// badPairs are Pairs that may not be, each for one reason.
func badPairs() map[string][]api.Pair {
	long := string(bytes.Repeat([]byte{7}, 128))
	pair := func(keys ...string) []api.Pair {
		var pairs []api.Pair
		for _, key := range keys {
			pairs = append(pairs, api.Pair{Key: key})
		}
		return pairs
	}
	return map[string][]api.Pair{
		"fall":                pair("b", "a"),
		"fall later":          pair("a", "c", "b", "d"),
		"fall at the end":     pair("a", "b", "aa"),
		"a beginning behind":  pair("ab", "a"),
		"fall by high bytes":  pair("\xff", "\x7f"),
		"twice":               pair("a", "a"),
		"twice at the end":    pair("a", "b", "b"),
		"twice, unlike":       {{Key: "a", Value: []byte{1}}, {Key: "a", Value: []byte{2}}},
		"no byte":             pair(""),
		"no byte, then one":   pair("", "a"),
		"no byte later":       pair("a", ""),
		"no byte, and twice":  pair("", ""),
		"129 bytes":           pair(long + "x"),
		"129 bytes, later":    pair("\x01", long+"x", "\x08"),
		"a great key":         pair(strings.Repeat("x", 100000)),
		"4097 bytes":          {{Key: "a", Value: make([]byte, 4097)}},
		"4097 bytes, later":   {{Key: "a"}, {Key: "b", Value: make([]byte, 4097)}, {Key: "c"}},
		"4097 bytes, at last": {{Key: "a"}, {Key: "b", Value: make([]byte, 4097)}},
	}
}

// edgePairs are Pairs that may be just so.
func edgePairs() map[string][]api.Pair {
	long := string(bytes.Repeat([]byte{7}, 127))
	return map[string][]api.Pair{
		"none":         nil,
		"one byte":     {{Key: "\x00"}, {Key: "\x00\x00"}, {Key: "\x01"}, {Key: "\x7f"}, {Key: "\x80"}, {Key: "\xff"}, {Key: "\xff\x00"}},
		"128 bytes":    {{Key: long}, {Key: long + "\x00"}, {Key: long + "\xff"}},
		"4096 bytes":   {{Key: "a", Value: bytes.Repeat([]byte{9}, 4096)}, {Key: "b", Value: make([]byte, 4096)}, {Key: "c", Value: make([]byte, 1)}},
		"none of them": {{Key: "a", Value: []byte{}}, {Key: "b"}},
	}
}

func TestP13_2_Pairs(t *testing.T) {
	_, c, has := begin(t)
	entry := call(t, ann(), move(3, bob(), 1))
	good := witnessOf(has, "ne", tokenKey(3), balanceKey(3, ann()), balanceKey(3, bob()))
	for name, pairs := range badPairs() {
		wantRefused(t, name, 131, c, api.Witness{Pairs: pairs}, entry)
		wantRefused(t, name, 131, c, api.Witness{Pairs: pairs, Proof: good.Proof}, entry)
		// Also where the rest is as it should be, and nobody would ask for them.
		w := copyOf(good)
		w.Pairs = append(w.Pairs, pairs...)
		if !pairsMayBe(w.Pairs) {
			wantRefused(t, name+", behind good ones", 131, c, w, entry)
		}
		w.Pairs = append(slices.Clone(pairs), good.Pairs...)
		wantRefused(t, name+", ahead of good ones", 131, c, w, entry)
	}
	for name, pairs := range edgePairs() {
		turned := maps.Clone(has)
		for _, p := range pairs {
			turned[p.Key] = string(p.Value)
		}
		keys := append(keysOf(good), keysOf(api.Witness{Pairs: pairs})...)
		before := c
		before.State = rootOf(turned)
		if got := wantReplay(t, name, before, witnessOf(turned, keys...), entry); got.code != api.OK {
			t.Errorf("%s: Replay: %d", name, int(got.code))
		}
	}
	// Keys that change places do not rise, though their digests may.
	for i := range good.Pairs {
		for j := range i {
			w := copyOf(good)
			w.Pairs[i], w.Pairs[j] = w.Pairs[j], w.Pairs[i]
			wantRefused(t, "changed about", 131, c, w, entry)
		}
	}
}

// Two keys of one digest are not known: so digests are handed to the look itself.
func TestP13_2_OneDigest(t *testing.T) {
	a, b, c := api.Bound{Key: api.Digest{1}}, api.Bound{Key: api.Digest{1, 31: 1}}, api.Bound{Key: api.Digest{2}, Value: api.Digest{5}}
	for _, x := range []struct {
		list  []api.Bound
		apart bool
	}{
		{nil, true}, {[]api.Bound{a}, true}, {[]api.Bound{a, b}, true}, {[]api.Bound{a, b, c}, true},
		{[]api.Bound{a, a}, false}, {[]api.Bound{a, a, b}, false}, {[]api.Bound{a, b, b}, false}, {[]api.Bound{{Key: c.Key}, c}, false}, {[]api.Bound{a, b, c, {Key: c.Key}}, false},
	} {
		if areApart(x.list) != x.apart {
			t.Errorf("areApart(%v) is %v", x.list, !x.apart)
		}
	}
	// The digests of many Pairs, by rising keys' digests.
	var pairs []api.Pair
	byDigest := map[string]string{}
	for i := range 300 {
		p := api.Pair{Key: "key" + eightOf(i), Value: bytes.Repeat([]byte{byte(i)}, i%5)}
		pairs = append(pairs, p)
		byDigest[sha(p.Key)] = string(p.Value)
	}
	if got := boundsOf(pairs); !slices.Equal(got, boundsSaid(byDigest)) || !areApart(got) {
		t.Errorf("the digests are %x", got)
	}
}

// badProofs are what a proof is turned into, none of which leads to the root for these Pairs.
func badProofs(p api.Proof) map[string]api.Proof {
	all := map[string]api.Proof{
		"nothing":                   {},
		"no Marks":                  {Sides: p.Sides},
		"a byte of Marks more":      {Marks: append(bytes.Clone(p.Marks), 0), Sides: p.Sides},
		"a byte of Marks ahead":     {Marks: append([]byte{0}, p.Marks...), Sides: p.Sides},
		"a byte of Marks less":      {Marks: p.Marks[:len(p.Marks)-1], Sides: p.Sides},
		"a byte of Marks less, too": {Marks: p.Marks[1:], Sides: p.Sides},
		"a digest more":             {Marks: p.Marks, Sides: append(slices.Clone(p.Sides), api.Digest{})},
	}
	for i := range p.Marks {
		for bit := range 8 {
			marks := bytes.Clone(p.Marks)
			marks[i] ^= 1 << bit
			all[fmt.Sprint("bit ", 8*i+bit, " of Marks")] = api.Proof{Marks: marks, Sides: p.Sides}
		}
	}
	for i := range p.Sides {
		sides := slices.Clone(p.Sides)
		sides[i][i%32] ^= 1 << (i % 8)
		all[fmt.Sprint("a bit of digest ", i)] = api.Proof{Marks: p.Marks, Sides: sides}
		all[fmt.Sprint("without digest ", i)] = api.Proof{Marks: p.Marks, Sides: slices.Delete(slices.Clone(p.Sides), i, i+1)}
		all[fmt.Sprint("twice digest ", i)] = api.Proof{Marks: p.Marks, Sides: slices.Insert(slices.Clone(p.Sides), i, p.Sides[i])}
	}
	return all
}

func TestP13_2_Proofs(t *testing.T) {
	table, c, has := begin(t)
	for _, r := range rows(t) {
		w, d, _ := Record(table, r.entries...)
		if got := wantReplay(t, r.name, c, w, r.entries...); got != (replayed{d, api.OK}) {
			t.Errorf("%s: Replay is %v, not %v", r.name, got, d)
		}
		for name, p := range badProofs(w.Proof) {
			wantRefused(t, r.name+": "+name, 132, c, api.Witness{Pairs: w.Pairs, Proof: p}, r.entries...)
		}
		keys := keysOf(w)
		fewer, more := proofOf(has, keys[1:]...), proofOf(has, append(slices.Clone(keys), "np", programKey(2), slotKey(3, 2))...)
		for _, p := range []api.Proof{proofOf(has, "none of them"), proofOf(has), proofOf(with(has, "a", "?"), keys...), fewer, more} {
			if !sameWitness(api.Witness{Proof: p}, api.Witness{Proof: w.Proof}) {
				wantRefused(t, r.name+": a proof of others", 132, c, api.Witness{Pairs: w.Pairs, Proof: p}, r.entries...)
			}
		}
	}
}

func TestP13_2_OtherRoots(t *testing.T) {
	table, c, has := begin(t)
	for _, r := range rows(t) {
		w, d, _ := Record(table, r.entries...)
		roots := []api.Digest{{}, d.State, c.Outbox, rootOf(with(has, "zz", "?")), rootOf(with(has, "a", "?"))}
		for bit := range 256 {
			root := c.State
			root[bit/8] ^= 1 << (bit % 8)
			roots = append(roots, root)
		}
		for _, root := range roots {
			before := c
			before.State = root
			wantRefused(t, r.name+": another root", 132, before, w, r.entries...)
		}
	}
}

// Values that are not what the table has.
func TestP13_2_Values(t *testing.T) {
	table, c, _ := begin(t)
	for _, r := range rows(t) {
		w, _, _ := Record(table, r.entries...)
		for i, p := range w.Pairs {
			others := [][]byte{append(bytes.Clone(p.Value), 0), []byte("?"), make([]byte, 4096)}
			if len(p.Value) > 0 {
				others = append(others, nil, p.Value[:len(p.Value)-1])
			}
			for at := range p.Value {
				turned := bytes.Clone(p.Value)
				turned[at]++
				others = append(others, turned)
			}
			for _, value := range others {
				other := copyOf(w)
				other.Pairs[i].Value = value
				wantRefused(t, fmt.Sprintf("%s: another value at %q", r.name, p.Key), 132, c, other, r.entries...)
			}
			for _, key := range []string{p.Key + "\x00", p.Key + "x"} { // behind that key, and ahead of the next one
				other := copyOf(w)
				other.Pairs[i].Key = key
				if len(p.Value) > 0 {
					wantRefused(t, fmt.Sprintf("%s: another key for %q", r.name, p.Key), 132, c, other, r.entries...)
				}
			}
		}
	}
}

// Each key that is touched must be told: with one less, and the proof of the others, there is too little.
func TestP13_2_Short(t *testing.T) {
	table, c, has := begin(t)
	for _, r := range rows(t) {
		w, _, _ := Record(table, r.entries...)
		keys := keysOf(w)
		for i, key := range keys {
			others := slices.Delete(slices.Clone(keys), i, i+1)
			wantRefused(t, fmt.Sprintf("%s: without %q", r.name, key), 133, c, witnessOf(has, others...), r.entries...)
		}
		wantRefused(t, r.name+": of nothing", 133, c, witnessOf(has), r.entries...)
		wantRefused(t, r.name+": of others", 133, c, witnessOf(has, "none", "o", "np"), r.entries...)
	}
	// Of a table that has nothing, nothing is known either.
	wantRefused(t, "of an empty table", 133, api.Commit{}, witnessOf(nil), depositOf(3, bob(), 1, 100))
	if got := wantReplay(t, "of an empty table", api.Commit{}, witnessOf(nil, "ne", "nt", ticketKey(1)), depositOf(3, bob(), 1, 99)); got.code != api.OK {
		t.Errorf("a ticket over an empty table: %v", got)
	}
}

// States that no ledger has: entries that are refused for another reason.
func TestP13_2_State(t *testing.T) {
	table, c, has := begin(t)
	for _, r := range rows(t) {
		w, _, _ := Record(table, r.entries...)
		for _, count := range []int{0, 1, 15, 17, 15 + len(r.entries), 16 + len(r.entries), full, full + 1, -1, -16, math.MinInt, math.MaxInt, math.MaxInt - 3, 1<<32 + 16, 1<<48 + 16} {
			before := c
			before.Count = count
			if count != 16 {
				wantRefused(t, r.name+": another Count", 134, before, w, r.entries...)
			}
		}
	}
	move1, burn1 := call(t, ann(), move(3, bob(), 1)), call(t, ann(), burn(3, bob(), 1))
	for _, x := range []struct {
		name  string
		turn  []string
		entry api.Entry
	}{
		{"a count of no form", []string{"ne", "?"}, move1},
		{"a count of nought", []string{"ne", eightOf(0)}, move1},
		{"a token of no form", []string{tokenKey(3), "?"}, move1},
		{"a balance of nought", []string{balanceKey(3, bob()), zeros(32)}, move1},
		{"a balance that is too great", []string{balanceKey(3, bob()), strings.Repeat("\xff", 32)}, move1},
		{"an outbox of no form", []string{"o", eightOf(3) + sha("one")}, burn1},
		{"a supply that is too small", []string{tokenKey(3), "\x01" + zeros(32)}, burn1},
		{"no admin", []string{"a", ""}, call(t, zed(), tokened(api.LetterToken, 5))},
		{"a ticket of no form", []string{ticketKey(3), "?"}, call(t, ann(), numbered(api.LetterCancel, 3))},
		{"no ticket is left", []string{"nt", eightOf(full)}, depositOf(5, bob(), 1, 100)},
		{"a program of no form", []string{programKey(1), "\x63"}, call(t, ann(), calling(1, 0, 50))},
		{"a slot of no form", []string{programKey(1), string(program(t, "push 7", "load", "done")), slotKey(1, 7), "?"}, call(t, ann(), calling(1, 0, 500))},
	} {
		turned := with(has, x.turn...)
		before := c
		before.State = rootOf(turned)
		keys := slices.Collect(maps.Keys(turned))
		keys = append(keys, tokenKey(5), balanceKey(3, cyd()), ticketKey(4))
		w := witnessOf(turned, keys...)
		wantRefused(t, x.name, 134, before, w, x.entry)
		if x.turn[0] != "ne" {
			wantRefused(t, x.name+", behind another one", 134, before, w, call(t, cyd(), calling(2, 0, 9)), x.entry)
		}
	}
	fullUp := with(has, "ne", eightOf(full))
	wantRefused(t, "no entry is left", 134, api.Commit{Count: full, State: rootOf(fullUp)}, witnessOf(fullUp, "ne"), api.Entry{Kind: api.EntryCall})
	last := with(has, "ne", eightOf(full-1))
	before := api.Commit{Count: full - 1, State: rootOf(last)}
	if got := wantReplay(t, "the last entry", before, witnessOf(last, "ne"), api.Entry{Kind: api.EntryCall}); got.commit.Count != full || got.code != api.OK {
		t.Errorf("the last entry: %v", got)
	}
	wantRefused(t, "behind the last entry", 134, before, witnessOf(last, "ne"), api.Entry{Kind: api.EntryCall}, api.Entry{Kind: api.EntryCall})
}

// Where several errors apply the first one counts.
func TestP13_2_WhichFirst(t *testing.T) {
	_, c, has := begin(t)
	move1 := call(t, ann(), move(3, bob(), 1))
	keys := []string{"ne", tokenKey(3), balanceKey(3, ann()), balanceKey(3, bob())}
	good, noCount := witnessOf(has, keys...), witnessOf(has, keys[1:]...)
	bad, twice := copyOf(good), copyOf(good)
	bad.Proof.Marks[0] ^= 1
	twice.Pairs[1] = twice.Pairs[0]
	twice.Proof = bad.Proof
	elsewhere := c
	elsewhere.Count++
	noEntry := api.Entry{}
	touchesMore := call(t, ann(), burn(3, bob(), 1))
	for _, x := range []struct {
		name    string
		wanted  api.Errno
		before  api.Commit
		w       api.Witness
		entries []api.Entry
	}{
		{"none, and all else", 130, elsewhere, twice, nil},
		{"too many, and all else", 130, elsewhere, twice, make([]api.Entry, 33)},
		{"Pairs and all behind", 131, elsewhere, twice, []api.Entry{noEntry}},
		{"a proof and all behind", 132, elsewhere, bad, []api.Entry{noEntry}},
		{"a proof, and too little", 132, c, bad, []api.Entry{touchesMore}},
		{"no entry, and no count", 134, c, noCount, []api.Entry{noEntry}},
		{"no count, and another one", 133, elsewhere, noCount, []api.Entry{move1}},
		{"another count, and too little", 134, elsewhere, good, []api.Entry{touchesMore}},
		{"too little, then no entry", 133, c, good, []api.Entry{move1, touchesMore, noEntry}},
		{"no entry, then too little", 134, c, good, []api.Entry{move1, noEntry, touchesMore}},
		{"too little at last", 133, c, good, []api.Entry{move1, move1, touchesMore}},
		{"no entry at last", 134, c, good, []api.Entry{move1, move1, noEntry}},
		{"too little at first", 133, c, good, []api.Entry{touchesMore, move1}},
	} {
		wantRefused(t, x.name, x.wanted, x.before, x.w, x.entries...)
	}
}

// Of the commit ahead Outbox and Leaves are handed on where no entry touches the outbox, and are not looked at where one does.
func TestP13_3_HandedOn(t *testing.T) {
	table, c, _ := begin(t)
	for _, r := range rows(t) {
		w, d, _ := Record(table, r.entries...)
		for _, leaves := range []int{c.Leaves, 0, 1, 99, -1, full + 1, math.MaxInt, math.MinInt} {
			before := api.Commit{Count: c.Count, State: c.State, Outbox: api.Digest{7}, Leaves: leaves}
			wanted := api.Commit{Count: d.Count, State: d.State, Outbox: before.Outbox, Leaves: leaves}
			if r.outbox {
				wanted = d
			}
			if got := wantReplay(t, r.name, before, w, r.entries...); got != (replayed{wanted, api.OK}) {
				t.Errorf("%s: behind %v Replay is %v, not %v", r.name, before, got, wanted)
			}
		}
	}
}

// An outbox that is touched and taken back is the state's still, also where there is none.
func TestP13_3_TakenBack(t *testing.T) {
	_, _, has := begin(t)
	taken := call(t, ann(), many(burn(3, bob(), 4), move(3, cyd(), 300)))
	for _, box := range []string{"", has["o"]} {
		table := tableWith(t, with(has, "o", box))
		c, _ := exec.Commit(table)
		before := api.Commit{Count: c.Count, State: c.State, Outbox: api.Digest{7}, Leaves: 99}
		w, d, e := Record(table, taken)
		if e != api.OK || d.Outbox != c.Outbox || d.Leaves != c.Leaves {
			t.Errorf("Record: %v, %d", d, int(e))
		}
		if got := wantReplay(t, "taken back", before, w, taken); got != (replayed{d, api.OK}) {
			t.Errorf("Replay: %v, not %v", got, d)
		}
	}
	book := outbox.New()
	if root, _ := book.Root(0); root != digestIn(sha("")) {
		t.Errorf("the root of no leaves is %x", root)
	}
}

// Pairs that no entry touches say nothing: whatever they are, the outbox among them.
func TestP13_3_Untouched(t *testing.T) {
	table, c, has := begin(t)
	everything := slices.Collect(maps.Keys(has))
	for _, r := range rows(t) {
		w, d, _ := Record(table, r.entries...)
		for _, more := range [][]string{{"o"}, {"a", "np", "none", "\x00", "\xff\xff"}, {balanceKey(3, api.Address{5})}, everything} {
			keys := slices.Concat(keysOf(w), more)
			if got := wantReplay(t, r.name+" with more", c, witnessOf(has, keys...), r.entries...); got != (replayed{d, api.OK}) {
				t.Errorf("%s: with %q more Replay is %v, not %v", r.name, more, got, d)
			}
			before := c
			before.Outbox, before.Leaves = api.Digest{7}, 99
			got := replayedOf(Replay(before, witnessOf(has, keys...), r.entries...))
			if handed := got.commit.Outbox == before.Outbox && got.commit.Leaves == 99; handed == r.outbox {
				t.Errorf("%s: with %q more the outbox is %x of %d", r.name, more, got.commit.Outbox, got.commit.Leaves)
			}
		}
	}
	// Values of no form are no fault where nobody asks for them.
	turned := with(has, "o", "?", "a", "??", "np", strings.Repeat("?", 4096))
	entry := call(t, ann(), move(3, bob(), 1))
	keys := []string{"ne", tokenKey(3), balanceKey(3, ann()), balanceKey(3, bob()), "o", "a", "np"}
	before := api.Commit{Count: 16, State: rootOf(turned), Outbox: api.Digest{1}, Leaves: 5}
	if got := wantReplay(t, "of no form", before, witnessOf(turned, keys...), entry); got.code != api.OK || got.commit.Outbox != before.Outbox || got.commit.Leaves != 5 {
		t.Errorf("Replay beside values of no form: %v", got)
	}
}
