package witness

import (
	"bytes"
	"fmt"
	"maps"
	"math/rand"
	"slices"
	"strings"
	"testing"

	"causeway/api"
	"causeway/exec"
	"causeway/letter"
	"causeway/store"
)

func people() []api.Address {
	return []api.Address{zed(), ann(), bob(), cyd(), homeOf(1), homeOf(2)}
}

// script draws entries: more often those that are done than by mere chance.
type script struct {
	*rand.Rand
	codes             [][]byte
	tickets, programs int // how many were made
}

func newScript(t testing.TB, seed int) *script {
	codes := [][]byte{
		echo(t), saver(t), busy(t),
		program(t, "token", "caller", "amount", "send", "push 1", "done"),
		program(t, "push 0", "load", "push 1", "add", "dup 0", "push 0", "swap 1", "save", "done"),
		program(t, "push 1", "arg 0", "save", "stop"),
		{99},
	}
	return &script{Rand: rand.New(rand.NewSource(int64(seed))), codes: codes}
}

func (r *script) whom() api.Address { return people()[r.Intn(len(people()))] }
func (r *script) token() int        { return []int{0, 3, 63}[r.Intn(3)] }

func (r *script) amount() api.Wide {
	switch r.Intn(12) {
	case 0:
		return api.Wide{^uint64(0) - uint64(r.Intn(60)), ^uint64(0), ^uint64(0), ^uint64(0)}
	case 1:
		return of(0)
	}
	return of(uint64(r.Intn(20)))
}

// number is one of so many that were made, more often a late one, now and then none of them.
func (r *script) number(made int) int {
	if r.Intn(2) == 0 {
		return max(1, made-r.Intn(5))
	}
	return 1 + r.Intn(made+2)
}

func (r *script) letter() api.Letter {
	kinds := []int{1, 1, 1, 1, 2, 2, 2, 3, 4, 4, 5, 5, 5, 6, 6, 7, 7, 8, 9, 9, 9, 10, 11, 11, 11}
	l := api.Letter{Kind: kinds[r.Intn(len(kinds))]}
	switch l.Kind {
	case 1, 2, 3, 4:
		l.Token, l.To, l.Amount = r.token(), r.whom(), r.amount()
		if l.Kind == 4 {
			l.From = r.whom()
		}
	case 5, 6:
		l.Number = r.number(r.tickets)
	case 7, 8, 9:
		l.Token = r.token()
	case 10:
		l.Code = r.codes[r.Intn(len(r.codes))]
	case 11:
		l.Token, l.Number, l.Gas = r.token(), r.number(r.programs), 1+r.Intn(1250)
		if r.Intn(3) == 0 {
			l.Amount = r.amount()
		}
		for range r.Intn(4) {
			l.Args = append(l.Args, of(uint64(r.Intn(3))))
		}
	}
	return l
}

// entry draws one that may be.
func (r *script) entry() api.Entry {
	if r.Intn(5) == 0 {
		e := api.Entry{Kind: api.EntryDeposit, Sender: r.whom(), Time: r.Intn(1000), Token: r.token(), To: r.whom(), Amount: r.amount(), Gas: 95 + r.Intn(100)}
		if e.Amount == of(0) {
			e.Amount = of(1)
		}
		return e
	}
	l := r.letter()
	if r.Intn(3) == 0 {
		l = many(l)
		for range r.Intn(1 + r.Intn(8)) {
			l.Parts = append(l.Parts, r.letter())
		}
	}
	body, _ := letter.Bytes(l)
	if r.Intn(40) == 0 && len(body) > 0 {
		body[r.Intn(len(body))] ^= 1 << r.Intn(8)
	}
	by := r.whom()
	if r.Intn(3) > 0 && l.Kind >= 7 && l.Kind <= 9 {
		by = zed()
	}
	return api.Entry{Kind: api.EntryCall, Sender: by, Time: r.Intn(1000), Body: body}
}

// play draws so many entries and runs them on a table: the entries, and the table and its commit ahead of each and behind all.
func (r *script) play(t testing.TB, table *store.Table, steps int, met map[string]int) ([]api.Entry, []*store.Table, []api.Commit) {
	t.Helper()
	var entries []api.Entry
	var tables []*store.Table
	var commits []api.Commit
	c, e := exec.Commit(table)
	if e != api.OK {
		t.Fatalf("Commit: %d", int(e))
	}
	for i := range steps {
		entry := r.entry()
		entries, tables, commits = append(entries, entry), append(tables, table.Copy()), append(commits, c)
		receipt, _, e := exec.Run(table, c.Count, entry)
		if e != api.OK {
			t.Fatalf("entry %d, %+v: %d", i, entry, int(e))
		}
		r.learn(entry, receipt, met)
		if c, e = exec.Commit(table); e != api.OK {
			t.Fatalf("Commit: %d", int(e))
		}
	}
	return entries, append(tables, table.Copy()), append(commits, c)
}

// learn lets the script know what was made, and counts what was met: which kinds were done, and which were not.
func (r *script) learn(entry api.Entry, receipt api.Receipt, met map[string]int) {
	kind := 0
	if l, e := letter.Read(entry.Body); e == api.OK {
		kind = l.Kind
	}
	met[fmt.Sprint("kind ", kind, ", done: ", receipt.Code == api.OK)]++
	switch {
	case receipt.Code == api.ErrExecTicket:
		r.tickets = receipt.Number
	case receipt.Number != 0:
		r.programs = receipt.Number
	}
}

// Record, Replay and Run against each other over many entries of every kind, in one and in several pieces.
func TestP13_5_DoneAgain(t *testing.T) {
	seeds, steps := 6, 250
	if testing.Short() {
		seeds, steps = 2, 100
	}
	met := map[string]int{}
	for seed := range seeds {
		r := newScript(t, seed)
		entries, tables, commits := r.play(t, exec.Genesis(zed()), steps, met)
		for _, size := range []int{1, 2, 7, 32} {
			replayed := commits[0] // what somebody knows who has never had the store
			for from := 0; from < len(entries); from += size {
				to := min(from+size, len(entries))
				w := wantDoneAgain(t, fmt.Sprint("entries ", from, " to ", to), tables[from], commits[from], commits[to], entries[from:to])
				d, e := Replay(replayed, w, entries[from:to]...)
				if d != commits[to] || e != api.OK {
					t.Fatalf("Replay of %d to %d, from what was replayed: %v, %d, not %v", from, to, d, int(e), commits[to])
				}
				replayed = d
			}
			if replayed != commits[len(entries)] {
				t.Errorf("in pieces of %d: %v, not %v", size, replayed, commits[len(entries)])
			}
		}
		if t.Failed() {
			return
		}
	}
	for kind := range 13 {
		for _, done := range []bool{true, false} {
			if what := fmt.Sprint("kind ", kind, ", done: ", done); met[what] < 3 && !testing.Short() && !(kind == 3 && !done) {
				t.Errorf("%s: met %d times", what, met[what])
			}
		}
	}
}

// wantDoneAgain: Record of some entries tells the commit behind them, and Replay of its witness, there and back by its bytes, too.
func wantDoneAgain(t testing.TB, what string, table *store.Table, before, behind api.Commit, entries []api.Entry) api.Witness {
	t.Helper()
	root := table.Root()
	w, d, e := Record(table, entries...)
	if d != behind || e != api.OK || table.Root() != root {
		t.Errorf("%s: Record tells %v, %d, not %v", what, d, int(e), behind)
	}
	b, e := Bytes(w)
	back, also := Read(b)
	if e != api.OK || also != api.OK || !sameWitness(w, back) {
		t.Errorf("%s: Bytes: %d, Read: %d", what, int(e), int(also))
	}
	if d, e := Replay(before, back, entries...); d != behind || e != api.OK {
		t.Errorf("%s: Replay is %v, %d, not %v", what, d, int(e), behind)
	}
	return w
}

// The same against the words, root by root and proof by proof, over a shorter script.
func TestP13_5_AgainstTheWords(t *testing.T) {
	steps := 60
	if testing.Short() {
		steps = 20
	}
	r := newScript(t, 77)
	entries, tables, commits := r.play(t, exec.Genesis(zed()), steps, map[string]int{})
	for from := range entries {
		to := from + 1 + r.Intn(min(32, len(entries)-from))
		got := wantRecord(t, "script", tables[from], entries[from:to]...)
		if replay := wantReplay(t, "script", commits[from], got.witness, entries[from:to]...); replay != (replayed{got.commit, got.code}) || got.commit != commits[to] {
			t.Fatalf("entries %d to %d: %v and %v, not %v", from, to, got, replay, commits[to])
		}
	}
}

// forge turns a witness into another one.
func (r *script) forge(w api.Witness, has map[string]string, other api.Witness) api.Witness {
	w = copyOf(w)
	keys := keysOf(w)
	switch r.Intn(10) {
	case 0: // a value
		p := &w.Pairs[r.Intn(len(w.Pairs))]
		if len(p.Value) > 0 {
			p.Value[r.Intn(len(p.Value))] ^= 1 << r.Intn(8)
		} else {
			p.Value = []byte{byte(r.Intn(256))}
		}
	case 1: // none there
		w.Pairs[r.Intn(len(w.Pairs))].Value = nil
	case 2: // another one's
		w.Pairs[r.Intn(len(w.Pairs))].Value = w.Pairs[r.Intn(len(w.Pairs))].Value
	case 3: // marks
		w.Proof.Marks[r.Intn(len(w.Proof.Marks))] ^= 1 << r.Intn(8)
	case 4: // digests
		if n := len(w.Proof.Sides); n > 0 {
			w.Proof.Sides[r.Intn(n)] = w.Proof.Sides[r.Intn(n)]
		}
	case 5: // fewer keys, with their proof
		at := r.Intn(len(keys))
		return witnessOf(has, slices.Delete(keys, at, at+1)...)
	case 6: // more keys, with their proof
		all := slices.Sorted(maps.Keys(has))
		return witnessOf(has, append(keys, all[r.Intn(len(all))], "none", string([]byte{byte(r.Intn(256))}))...)
	case 7: // the proof alone of more, or the Pairs
		w.Proof = witnessOf(has, append(keys, "none", "np")...).Proof
	case 8: // of another table, or other entries
		w.Proof = other.Proof
	case 9:
		return other
	}
	return w
}

// Whatever a witness is: it is refused, or it commits the same.
func TestP13_6_NothingElse(t *testing.T) {
	steps, forged := 80, 60
	if testing.Short() {
		steps, forged = 30, 20
	}
	met := map[api.Errno]int{}
	r := newScript(t, 5)
	entries, tables, commits := r.play(t, exec.Genesis(zed()), steps, map[string]int{})
	last := api.Witness{}
	for from := range entries {
		to := from + 1 + r.Intn(min(5, len(entries)-from))
		row, has := entries[from:to], inTable(tables[from])
		w, d, _ := Record(tables[from], row...)
		if from == 0 {
			last = w
		}
		for range forged {
			lie := r.forge(w, has, last)
			if r.Intn(3) == 0 {
				lie = r.forge(w, has, lie)
			}
			got := wantReplay(t, "a forged witness", commits[from], lie, row...)
			met[got.code]++
			if got.code == api.OK && got.commit != d {
				t.Fatalf("entries %d to %d: a forged witness commits %v, not %v", from, to, got.commit, d)
			}
		}
		last = w
	}
	for _, e := range []api.Errno{0, 132, 133} {
		if met[e] < 10 {
			t.Errorf("%d was answered %d times", int(e), met[e])
		}
	}
}

// Entries that Record refuses are refused by Replay, whatever is told.
func TestP13_6_RefusedByBoth(t *testing.T) {
	table, c, has := begin(t)
	everything := witnessOf(has, append(keysIn(has), tokenKey(5), ticketKey(4), balanceKey(3, cyd()))...)
	for _, r := range rows(t) {
		entries := append(slices.Clone(r.entries[:min(31, len(r.entries))]), api.Entry{Kind: 3})
		for _, w := range []api.Witness{everything, witnessOf(has, "ne"), {}} {
			got := wantReplay(t, r.name, c, w, entries...)
			if told := wantRecord(t, r.name, table, entries...); got.code == api.OK || told.code != 121 {
				t.Errorf("%s and what is no entry: Record %d, Replay %v", r.name, int(told.code), got)
			}
		}
	}
}

// crowd lays so many keys more in a table.
func crowd(table *store.Table, keys int) {
	changes := make([]api.Change, keys)
	for i := range changes {
		changes[i] = api.Change{Key: "crowd" + eightOf(i), New: []byte(eightOf(i))}
	}
	table.Apply(changes...)
}

// The witness of one entry that touches many keys, where long values stand that nobody reads, in a table in which much stands.
func TestP13_7_OneEntryFits(t *testing.T) {
	keys := 60000
	if testing.Short() {
		keys = 3000
	}
	table := world(t)
	saves := []string{}
	for i := range 47 {
		saves = append(saves, fmt.Sprint("push ", 1000+i), "push 1", "save")
		table.Put(slotKey(4, uint64(1000+i)), bytes.Repeat([]byte{byte(i)}, 4096))
	}
	table.Put(slotKey(5, 7), make([]byte, 4096))
	code := program(t, append(saves, "push 1", "done")...)
	for i, l := range []api.Letter{coding(code), coding(program(t, "push 7", "push 1", "save", "push 0", "done"))} {
		if receipt, _, e := exec.Run(table, 16+i, call(t, ann(), l)); receipt.Number != 4+i || e != api.OK {
			t.Fatalf("the program was not made: %+v, %d", receipt, int(e))
		}
	}
	for _, who := range people() {
		table.Put(allowanceKey(3, ann(), who), bytes.Repeat([]byte{7}, 4096))
	}
	crowd(table, keys)
	entry := call(t, ann(), many(calling(4, 1, 9600), calling(5, 0, 300), burn(3, bob(), 1), allow(3, zed(), 1), allow(3, bob(), 1), allow(3, cyd(), 1), move(3, cyd(), 1), coding(code)))
	c, _ := exec.Commit(table)
	w, d, e := Record(table, entry)
	if e != api.OK || d.Leaves != c.Leaves+1 || len(w.Pairs) < 60 {
		t.Fatalf("Record: %v, %d, of %d keys", d, int(e), len(w.Pairs))
	}
	b, e := Bytes(w)
	if e != api.OK || len(b) < 50*4096 {
		t.Errorf("Bytes: %d, %d", len(b), int(e))
	}
	if got := replayedOf(Replay(c, w, entry)); got != (replayed{d, api.OK}) {
		t.Errorf("Replay is %v, not %v", got, d)
	}
	for _, r := range rows(t) {
		for _, entry := range r.entries {
			w, _, e := Record(table, entry)
			if _, also := Bytes(w); e != api.OK || also != api.OK {
				t.Errorf("%s: Record: %d, Bytes: %d", r.name, int(e), int(also))
			}
		}
	}
}

// The most that the witness of one entry could be fits: 101 keys of 128 bytes with values of 4096, and 512 digests and marks for each.
func TestP13_7_TheMost(t *testing.T) {
	var w api.Witness
	for i := range 101 {
		w.Pairs = append(w.Pairs, api.Pair{Key: strings.Repeat("k", 120) + eightOf(i), Value: make([]byte, 4096)})
	}
	w.Proof.Sides = make([]api.Digest, 101*512)
	w.Proof.Marks = make([]byte, 101*513/4+1)
	wantBytes(t, "the most", w)
}

func TestP13_8_ThereAndBack(t *testing.T) {
	for name, w := range plain(t) {
		b := wantBytes(t, name, w)
		if !wantRead(t, name, b) {
			t.Errorf("%s: Read does not take what Bytes tells", name)
		}
	}
	r := newScript(t, 8)
	for range 300 {
		w := api.Witness{Proof: api.Proof{Marks: make([]byte, r.Intn(50)), Sides: make([]api.Digest, r.Intn(5))}}
		r.Read(w.Proof.Marks)
		for i := range w.Proof.Sides {
			r.Read(w.Proof.Sides[i][:])
		}
		has := map[string]string{}
		for range r.Intn(10) {
			key, value := make([]byte, 1+r.Intn(128)), make([]byte, r.Intn(300))
			r.Read(key)
			r.Read(value)
			has[string(key)] = string(value)
		}
		for _, key := range slices.Sorted(maps.Keys(has)) {
			w.Pairs = append(w.Pairs, api.Pair{Key: key, Value: []byte(has[key])})
		}
		wantBytes(t, "drawn", w)
	}
}

// roomy are bytes with spare room behind them, in which something stands.
func roomy(b []byte) []byte {
	long := append(bytes.Clone(b), "spare room"...)
	return long[:len(b)]
}

// roomyWitness is a witness whose lists all have spare room.
func roomyWitness(w api.Witness) api.Witness {
	pairs := append(slices.Clone(w.Pairs), api.Pair{Key: "spare"}, api.Pair{Key: "room"})[:len(w.Pairs)]
	for i := range pairs {
		pairs[i].Value = roomy(pairs[i].Value)
	}
	sides := append(slices.Clone(w.Proof.Sides), api.Digest{1}, api.Digest{2})[:len(w.Proof.Sides)]
	return api.Witness{Pairs: pairs, Proof: api.Proof{Marks: roomy(w.Proof.Marks), Sides: sides}}
}

// stretched is a witness with the spare room of all its lists.
func stretched(w api.Witness) api.Witness {
	s := api.Witness{Pairs: slices.Clone(w.Pairs[:cap(w.Pairs)]), Proof: api.Proof{Marks: w.Proof.Marks[:cap(w.Proof.Marks)], Sides: w.Proof.Sides[:cap(w.Proof.Sides)]}}
	for i := range s.Pairs {
		s.Pairs[i].Value = s.Pairs[i].Value[:cap(s.Pairs[i].Value)]
	}
	return s
}

// spoil writes into all that a witness has, its spare room too.
func spoil(w api.Witness) {
	s := stretched(w)
	for _, p := range s.Pairs {
		for i := range p.Value {
			p.Value[i] ^= 0xff
		}
	}
	for i := range s.Proof.Marks {
		s.Proof.Marks[i] ^= 0xff
	}
	for i := range s.Proof.Sides {
		s.Proof.Sides[i][0] ^= 0xff
	}
	for i := range w.Pairs[:cap(w.Pairs)] {
		w.Pairs[:cap(w.Pairs)][i] = api.Pair{Key: "spoiled"}
	}
}

// wantApart: no two lists of a witness share memory: each is written into by itself, and the others stay.
func wantApart(t testing.TB, what string, w api.Witness) {
	t.Helper()
	lists := [][]byte{w.Proof.Marks}
	for _, p := range w.Pairs {
		lists = append(lists, p.Value)
	}
	for i := range lists {
		lists[i] = lists[i][:cap(lists[i])]
		for at := range lists[i] {
			lists[i][at] = byte(i)
		}
	}
	for i, list := range lists {
		if n := bytes.Count(list, []byte{byte(i)}); n != len(list) {
			t.Errorf("%s: list %d shares memory with another one", what, i)
		}
	}
}

func roomyEntries(entries []api.Entry) []api.Entry {
	list := append(slices.Clone(entries), api.Entry{Kind: 99})[:len(entries)]
	for i := range list {
		list[i].Body = roomy(list[i].Body)
	}
	return list
}

func sameEntries(a, b []api.Entry) bool {
	return slices.EqualFunc(a[:cap(a)][:len(b)+1], append(slices.Clone(b), api.Entry{Kind: 99}), func(x, y api.Entry) bool {
		spare := y.Body
		if x.Kind != 99 {
			spare = roomy(y.Body)
		}
		whole := x.Body[:cap(x.Body)]
		return x.Kind == y.Kind && x.Sender == y.Sender && x.Time == y.Time && x.Token == y.Token && x.To == y.To && x.Amount == y.Amount && x.Gas == y.Gas &&
			bytes.Equal(whole, spare[:cap(spare)])
	})
}

// What is handed in is not written into and not kept, what is answered is the caller's.
func TestR4_Memory(t *testing.T) {
	table, c, has := begin(t)
	for _, r := range rows(t) {
		entries := roomyEntries(r.entries)
		first := recordedOf(Record(table, entries...))
		kept := copyOf(first.witness)
		if !sameEntries(entries, r.entries) {
			t.Errorf("%s: Record has written into the entries", r.name)
		}
		handed := roomyWitness(kept)
		ahead := copyOf(stretched(handed))
		d, e := Replay(c, handed, entries...)
		b, also := Bytes(handed)
		if !sameWitness(stretched(handed), ahead) || !sameEntries(entries, r.entries) || d != first.commit || e != api.OK || also != api.OK {
			t.Errorf("%s: what was handed in is written into: %v, %d, %d", r.name, d, int(e), int(also))
		}
		text := string(b)
		for i := range b[:cap(b)] {
			b[:cap(b)][i] ^= 0xff
		}
		if !sameWitness(stretched(handed), ahead) {
			t.Errorf("%s: what Bytes answers is not the caller's", r.name)
		}
		read := roomy([]byte(text))
		back, _ := Read(read)
		for i := range read[:cap(read)] {
			read[:cap(read)][i] ^= 0xff
		}
		if !sameWitness(back, kept) {
			t.Errorf("%s: what Read answers hangs on what was handed in", r.name)
		}
		wantApart(t, r.name+": Read", back)
		wantApart(t, r.name+": Record", copyless(Record(table, r.entries...)))
		spoil(first.witness)
		again := recordedOf(Record(table, r.entries...))
		if !sameWitness(again.witness, kept) || again.commit != first.commit || !maps.Equal(inTable(table), has) {
			t.Errorf("%s: what Record answers is not the caller's", r.name)
		}
	}
}

// copyless is the witness that Record answers, as it is.
func copyless(w api.Witness, _ api.Commit, _ api.Errno) api.Witness { return w }

// FuzzAgainstTheWords takes bytes as a witness, as what is turned in a good one, and as entries.
func FuzzAgainstTheWords(f *testing.F) {
	table, c, has := begin(f)
	list := rows(f)
	for i, r := range list {
		w, _, _ := Record(table, r.entries...)
		b, _ := Bytes(w)
		f.Add(b, []byte{byte(i), byte(i + 1)}, 16)
	}
	f.Add([]byte("W\x00\x00\x00"), []byte{0}, 0)
	f.Add([]byte("W\x01\x01\x01\x01a\x00\x00\x00"), bytes.Repeat([]byte{7}, 40), 17)
	f.Fuzz(func(t *testing.T, b, which []byte, count int) {
		var entries []api.Entry
		for _, x := range which {
			entries = append(entries, list[int(x)%(len(list)-2)].entries...)
		}
		wantRead(t, "fuzz", b)
		before := c
		before.Count = count
		told := recordOf(has, entries...)
		forged := turnedBy(told.witness, b)
		w, _ := readOf(b)
		for _, w := range []api.Witness{w, forged} {
			got := wantReplay(t, "fuzz", before, w, entries...)
			if got.code == api.OK && got != (replayed{told.commit, told.code}) {
				t.Errorf("Replay is %v, Record %v", got, told)
			}
		}
	})
}

// turnedBy is a witness in which bytes have turned something: by threes which list, which place, and what.
func turnedBy(w api.Witness, b []byte) api.Witness {
	w = copyOf(w)
	for three := range slices.Chunk(b[:min(len(b), 9)], 3) {
		if len(three) < 3 || len(w.Pairs) == 0 {
			break
		}
		at, x := int(three[1]), three[2]
		switch p := &w.Pairs[at%len(w.Pairs)]; three[0] % 4 {
		case 0:
			p.Value = append(p.Value, x)
		case 1:
			p.Key += string([]byte{x})
		case 2:
			w.Proof.Marks[at%len(w.Proof.Marks)] ^= x
		case 3:
			if n := len(w.Proof.Sides); n > 0 {
				w.Proof.Sides[at%n][x%32] ^= x
			}
		}
	}
	return w
}

func BenchmarkRecord(b *testing.B) {
	table := world(b)
	crowd(table, 20000)
	entry := call(b, ann(), burn(3, bob(), 1))
	for b.Loop() {
		if _, _, e := Record(table, entry); e != api.OK {
			b.Fatal(e)
		}
	}
}

func BenchmarkReplay(b *testing.B) {
	table := world(b)
	crowd(table, 20000)
	c, _ := exec.Commit(table)
	entry := call(b, ann(), burn(3, bob(), 1))
	w, _, _ := Record(table, entry)
	for b.Loop() {
		if _, e := Replay(c, w, entry); e != api.OK {
			b.Fatal(e)
		}
	}
}
