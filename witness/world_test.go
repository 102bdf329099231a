package witness

import (
	"bytes"
	"fmt"
	"maps"
	"math/big"
	"slices"
	"strings"
	"testing"

	"causeway/api"
	"causeway/exec"
	"causeway/letter"
	"causeway/machine"
	"causeway/store"
)

// zed is the admin.
func zed() api.Address { return api.Address{9: 9} }
func ann() api.Address { return api.Address{1} }
func bob() api.Address { return api.Address{19: 2} }
func cyd() api.Address { return api.Address{3, 19: 3} }

func of(n uint64) api.Wide { return api.Wide{n} }

func wideText(n uint64) string { return zeros(24) + eightOf(int(n)) }

func tokenKey(token int) string { return "t" + string([]byte{byte(token)}) }
func balanceKey(token int, who api.Address) string {
	return "b" + string([]byte{byte(token)}) + string(who[:])
}
func allowanceKey(token int, owner, spender api.Address) string {
	return "l" + string([]byte{byte(token)}) + string(owner[:]) + string(spender[:])
}
func ticketKey(number int) string            { return "k" + eightOf(number) }
func programKey(number int) string           { return "p" + eightOf(number) }
func slotKey(number int, slot uint64) string { return "s" + eightOf(number) + wideText(slot) }

func homeOf(number int) api.Address {
	return api.Address([]byte(sha("program" + eightOf(number))[:20]))
}

func bodyOf(t testing.TB, l api.Letter) []byte {
	t.Helper()
	b, e := letter.Bytes(l)
	if e != api.OK {
		t.Fatalf("%+v is no letter: %d", l, int(e))
	}
	return b
}

// call is an entry by which somebody sends a letter.
func call(t testing.TB, by api.Address, l api.Letter) api.Entry {
	t.Helper()
	return api.Entry{Kind: api.EntryCall, Sender: by, Time: 1234567, Body: bodyOf(t, l)}
}

// depositOf is a deposit by ann.
func depositOf(token int, to api.Address, amount uint64, gas int) api.Entry {
	return api.Entry{Kind: api.EntryDeposit, Sender: ann(), Time: 77, Token: token, To: to, Amount: of(amount), Gas: gas}
}

func move(token int, to api.Address, amount uint64) api.Letter {
	return api.Letter{Kind: api.LetterMove, Token: token, To: to, Amount: of(amount)}
}

func burn(token int, to api.Address, amount uint64) api.Letter {
	return api.Letter{Kind: api.LetterBurn, Token: token, To: to, Amount: of(amount)}
}

func allow(token int, to api.Address, amount uint64) api.Letter {
	return api.Letter{Kind: api.LetterAllow, Token: token, To: to, Amount: of(amount)}
}

func pull(token int, from, to api.Address, amount uint64) api.Letter {
	return api.Letter{Kind: api.LetterPull, Token: token, From: from, To: to, Amount: of(amount)}
}

func numbered(kind, number int) api.Letter { return api.Letter{Kind: kind, Number: number} }
func tokened(kind, token int) api.Letter   { return api.Letter{Kind: kind, Token: token} }
func coding(code []byte) api.Letter        { return api.Letter{Kind: api.LetterCode, Code: code} }
func many(parts ...api.Letter) api.Letter  { return api.Letter{Kind: api.LetterMany, Parts: parts} }

// calling is a LetterCall of a program, along with so much of token 3.
func calling(number int, amount uint64, gas int, args ...uint64) api.Letter {
	l := api.Letter{Kind: api.LetterCall, Number: number, Token: 3, Amount: of(amount), Gas: gas}
	for _, x := range args {
		l.Args = append(l.Args, of(x))
	}
	return l
}

func program(t testing.TB, lines ...string) []byte {
	t.Helper()
	code, line, e := machine.Assemble(strings.Join(lines, "\n"))
	if e != api.OK {
		t.Fatalf("line %d of %q: %d", line, lines, int(e))
	}
	return code
}

func echo(t testing.TB) []byte { return program(t, "arg 0", "done") }

// saver lays its second argument in the slot that the first one tells.
func saver(t testing.TB) []byte { return program(t, "arg 0", "arg 1", "save", "arg 0", "load", "done") }

// busy asks what bob has of token 3, saves that in slot 2, and sends 1 of the token that came along to the caller.
func busy(t testing.TB) []byte {
	who := bob()
	return program(t, "push 2", "push 3", "push "+new(big.Int).SetBytes(who[:]).String(), "have", "save", "token", "caller", "push 1", "send", "push 2", "load", "done")
}

// worldEntries make a store of every kind of thing: token 3 runs, 4 is paused, 5 is not there; three tickets are open, of tokens 5, 4 and 3; there are three programs, and three leaves.
func worldEntries(t testing.TB) []api.Entry {
	return []api.Entry{
		call(t, zed(), tokened(api.LetterToken, 3)),
		call(t, zed(), tokened(api.LetterToken, 4)),
		depositOf(3, ann(), 100, 100),
		depositOf(3, bob(), 50, 100),
		depositOf(4, ann(), 20, 100),
		call(t, zed(), tokened(api.LetterPause, 4)),
		depositOf(5, bob(), 9, 100),
		depositOf(4, bob(), 8, 100),
		depositOf(3, bob(), 10, 99),
		call(t, bob(), allow(3, ann(), 8)),
		call(t, cyd(), coding(echo(t))),
		call(t, cyd(), coding(saver(t))),
		call(t, cyd(), coding(busy(t))),
		call(t, ann(), calling(3, 7, 10000)),
		call(t, ann(), calling(2, 0, 500, 1, 5)),
		call(t, ann(), many(burn(3, bob(), 1), burn(3, cyd(), 2), burn(3, cyd(), 3))),
	}
}

// world is the table that they make.
func world(t testing.TB) *store.Table {
	t.Helper()
	table := exec.Genesis(zed())
	for i, entry := range worldEntries(t) {
		receipt, _, e := exec.Run(table, i, entry)
		if e != api.OK || receipt.Code != api.OK && receipt.Code != api.ErrExecTicket {
			t.Fatalf("entry %d of the world: %+v, %d", i, receipt, int(e))
		}
	}
	return table
}

// row is entries over the world, and which keys they touch there.
type row struct {
	name    string
	entries []api.Entry
	keys    []string // beside the count
	outbox  bool     // whether the outbox is touched
}

func rows(t testing.TB) []row {
	t3, bAnn, bBob, bCyd := tokenKey(3), balanceKey(3, ann()), balanceKey(3, bob()), balanceKey(3, cyd())
	one := func(name string, e api.Entry, keys ...string) row {
		return row{name, []api.Entry{e}, keys, slices.Contains(keys, "o")}
	}
	none := api.Entry{Kind: api.EntryCall, Sender: ann(), Body: []byte{99}}
	list := []row{
		one("minted", depositOf(3, bob(), 5, 100), t3, bBob),
		one("no such token", depositOf(5, bob(), 5, 100), tokenKey(5), "nt", ticketKey(4)),
		one("too little gas", depositOf(3, bob(), 5, 99), "nt", ticketKey(4)),
		one("no letter", none),
		one("move", call(t, ann(), move(3, bob(), 3)), t3, bAnn, bBob),
		one("move all", call(t, bob(), move(3, cyd(), 50)), t3, bBob, bCyd),
		one("move too much", call(t, ann(), move(3, bob(), 300)), t3, bAnn),
		one("burn", call(t, ann(), burn(3, bob(), 4)), t3, bAnn, "o"),
		one("allow", call(t, ann(), allow(3, bob(), 9)), t3, allowanceKey(3, ann(), bob())),
		one("allow no more", call(t, bob(), allow(3, ann(), 0)), t3, allowanceKey(3, bob(), ann())),
		one("pull", call(t, ann(), pull(3, bob(), cyd(), 8)), t3, allowanceKey(3, bob(), ann()), bBob, bCyd),
		one("retry", call(t, cyd(), numbered(api.LetterRetry, 3)), ticketKey(3), t3, bBob),
		one("retry of a paused one", call(t, cyd(), numbered(api.LetterRetry, 2)), ticketKey(2), tokenKey(4)),
		one("cancel", call(t, ann(), numbered(api.LetterCancel, 1)), ticketKey(1), "o"),
		one("token", call(t, zed(), tokened(api.LetterToken, 5)), "a", tokenKey(5)),
		one("token by another one", call(t, ann(), tokened(api.LetterToken, 5)), "a"),
		one("pause", call(t, zed(), tokened(api.LetterPause, 3)), "a", t3),
		one("resume", call(t, zed(), tokened(api.LetterResume, 4)), "a", tokenKey(4)),
		one("code", call(t, ann(), coding(echo(t))), "np", programKey(4)),
		one("call", call(t, ann(), calling(1, 0, 50, 8)), programKey(1)),
		one("call of none", call(t, ann(), calling(9, 0, 50, 8)), programKey(9)),
		one("save", call(t, bob(), calling(2, 0, 500, 6, 9)), programKey(2), slotKey(2, 6)),
		one("save nought", call(t, bob(), calling(2, 0, 500, 1, 0)), programKey(2), slotKey(2, 1)),
		one("busy", call(t, cyd(), calling(3, 0, 10000)), programKey(3), bBob, slotKey(3, 2), t3, balanceKey(3, homeOf(3)), bCyd),
		one("several", call(t, ann(), many(move(3, bob(), 1), burn(3, bob(), 4), numbered(api.LetterCancel, 1))), t3, bAnn, bBob, "o", ticketKey(1)),
		one("several, taken back", call(t, ann(), many(burn(3, bob(), 4), move(3, cyd(), 300))), t3, bAnn, "o"),
	}
	return append(list, longRows(t, list)...)
}

// longRows are those of more than one entry.
func longRows(t testing.TB, list []row) []row {
	all := row{name: "all of them"}
	for _, r := range list {
		all.entries = append(all.entries, r.entries...)
		all.outbox = all.outbox || r.outbox
	}
	more := row{name: "thirty-two", entries: slices.Repeat([]api.Entry{depositOf(3, cyd(), 1, 100)}, 32), keys: []string{tokenKey(3), balanceKey(3, cyd())}}
	return []row{all, more}
}

// inTable is what a table has.
func inTable(table *store.Table) map[string]string {
	has := map[string]string{}
	for key, value := range table.All() {
		has[key] = string(value)
	}
	return has
}

func tableWith(t testing.TB, has map[string]string) *store.Table {
	t.Helper()
	table := store.NewTable()
	for key, value := range has {
		if e := table.Put(key, []byte(value)); e != api.OK {
			t.Fatalf("Put: %d", int(e))
		}
	}
	return table
}

// with is a table's content with other values at some keys, by turns a key and a value.
func with(has map[string]string, turned ...string) map[string]string {
	has = maps.Clone(has)
	for i := 0; i < len(turned); i += 2 {
		has[turned[i]] = turned[i+1]
	}
	return has
}

func sameWitness(a, b api.Witness) bool {
	return slices.EqualFunc(a.Pairs, b.Pairs, func(p, q api.Pair) bool { return p.Key == q.Key && bytes.Equal(p.Value, q.Value) }) &&
		bytes.Equal(a.Proof.Marks, b.Proof.Marks) && slices.Equal(a.Proof.Sides, b.Proof.Sides)
}

// copyOf is a witness that shares nothing with another one.
func copyOf(w api.Witness) api.Witness {
	c := api.Witness{Pairs: slices.Clone(w.Pairs), Proof: api.Proof{Marks: bytes.Clone(w.Proof.Marks), Sides: slices.Clone(w.Proof.Sides)}}
	for i := range c.Pairs {
		c.Pairs[i].Value = bytes.Clone(c.Pairs[i].Value)
	}
	return c
}

func isEmpty(w api.Witness) bool {
	return len(w.Pairs)+len(w.Proof.Marks)+len(w.Proof.Sides) == 0
}

func recordedOf(w api.Witness, c api.Commit, e api.Errno) recorded { return recorded{w, c, e} }

func replayedOf(c api.Commit, e api.Errno) replayed { return replayed{c, e} }

// wantRecord records entries over a table and by the words, and tells what came of it; the table must stay as it is.
func wantRecord(t testing.TB, what string, table *store.Table, entries ...api.Entry) recorded {
	t.Helper()
	has := inTable(table)
	got, wanted := recordedOf(Record(table, entries...)), recordOf(has, entries...)
	if got.code != wanted.code || got.commit != wanted.commit || !sameWitness(got.witness, wanted.witness) {
		t.Errorf("%s: Record is %s, not %s", what, got, wanted)
	}
	if got.code != api.OK && (!isEmpty(got.witness) || got.commit != (api.Commit{})) {
		t.Errorf("%s: beside the error %d there is %s", what, int(got.code), got)
	}
	if !maps.Equal(has, inTable(table)) || table.Root() != rootOf(has) {
		t.Errorf("%s: the table has turned", what)
	}
	return got
}

func (r recorded) String() string {
	return fmt.Sprintf("%q %x %x, %v, %d", r.witness.Pairs, r.witness.Proof.Marks, r.witness.Proof.Sides, r.commit, int(r.code))
}

// wantReplay replays entries, by the words too, and tells what came of it.
func wantReplay(t testing.TB, what string, before api.Commit, w api.Witness, entries ...api.Entry) replayed {
	t.Helper()
	got, wanted := replayedOf(Replay(before, w, entries...)), replayOf(before, w, entries...)
	if got != wanted {
		t.Errorf("%s: Replay is %v, not %v", what, got, wanted)
	}
	if got.code != api.OK && got.commit != (api.Commit{}) {
		t.Errorf("%s: beside the error %d there is %v", what, int(got.code), got.commit)
	}
	return got
}

// wantRefused replays what is to be refused.
func wantRefused(t testing.TB, what string, wanted api.Errno, before api.Commit, w api.Witness, entries ...api.Entry) {
	t.Helper()
	if got := wantReplay(t, what, before, w, entries...); got.code != wanted {
		t.Errorf("%s: Replay is refused with %d, not %d", what, int(got.code), int(wanted))
	}
}

// begin is the world, its commit, and what it has.
func begin(t testing.TB) (*store.Table, api.Commit, map[string]string) {
	t.Helper()
	table := world(t)
	c, e := exec.Commit(table)
	if e != api.OK {
		t.Fatalf("Commit: %d", int(e))
	}
	return table, c, inTable(table)
}
