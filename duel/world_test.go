package duel

import (
	"bytes"
	"math/rand"
	"slices"
	"sync"
	"testing"

	"causeway/api"
	"causeway/exec"
	"causeway/letter"
	"causeway/machine"
	"causeway/store"
	"causeway/witness"
)

// world is an inbox, with the store and the commit ahead of each of its entries and behind all.
type world struct {
	entries []api.Entry
	tables  []*store.Table
	commits []api.Commit
}

// zed is the admin of the ledger.
func zed() api.Address { return api.Address{9: 9} }

func someone(n byte) api.Address { return api.Address{0: n, 7: n ^ 255, 19: n} }

// theWorld goes over more entries than a duel may; it is made once, and nobody writes into it.
var theWorld = sync.OnceValue(func() world { return played(rand.New(rand.NewSource(17)), 1100) })

func played(r *rand.Rand, n int) world {
	var entries []api.Entry
	for i := range n {
		entries = append(entries, drawn(r, i))
	}
	return followed(entries)
}

// followed is what follows from an inbox.
func followed(entries []api.Entry) world {
	table := exec.Genesis(zed())
	var w world
	for i, entry := range entries {
		w.add(table, entry)
		if _, _, e := exec.Run(table, i, entry); e != api.OK {
			panic(e)
		}
	}
	w.add(table)
	return w
}

// add writes down how a table stands ahead of an entry, or behind all.
func (w *world) add(table *store.Table, entry ...api.Entry) {
	c, e := exec.Commit(table)
	if e != api.OK {
		panic(e)
	}
	w.entries, w.tables, w.commits = append(w.entries, entry...), append(w.tables, table.Copy()), append(w.commits, c)
}

// drawn is an entry: the first ones make tokens and a program, then all kinds come, some of which are not done.
func drawn(r *rand.Rand, i int) api.Entry {
	who, to, token, amount := someone(byte(r.Intn(4))), someone(byte(r.Intn(4))), r.Intn(3), api.Wide{uint64(1 + r.Intn(9))}
	deposit := api.Entry{Kind: api.EntryDeposit, Sender: who, Time: i, Token: token, To: to, Amount: amount, Gas: 99 + r.Intn(9)}
	l := api.Letter{Kind: api.LetterMove, Token: token, To: to, Amount: amount}
	switch k := r.Intn(20); {
	case i < 4:
		who, l = zed(), []api.Letter{{Kind: api.LetterToken}, {Kind: api.LetterToken, Token: 1}, {Kind: api.LetterCode, Code: counter()}, {Kind: api.LetterPause, Token: 1}}[i]
	case k < 7:
		return deposit
	case k < 12:
		l.Kind = api.LetterBurn
	case k < 14:
		l = api.Letter{Kind: api.LetterCall, Number: 1, Gas: 5000}
	case k < 16:
		l = api.Letter{Kind: api.LetterCancel - r.Intn(2), Number: 1 + r.Intn(1+i/8)}
	case k < 17:
		l = api.Letter{Kind: api.LetterMany, Parts: []api.Letter{l, {Kind: api.LetterBurn, Token: token, To: to, Amount: amount}}}
	case k < 18:
		return api.Entry{Kind: api.EntryCall, Sender: who, Time: i, Body: []byte{99}}
	}
	body, e := letter.Bytes(l)
	if e != api.OK {
		panic(e)
	}
	return api.Entry{Kind: api.EntryCall, Sender: who, Time: i, Body: body}
}

// counter is a program that counts its calls in slot 0.
func counter() []byte {
	code, _, e := machine.Assemble("push 0\npush 0\nload\npush 1\nadd\nsave\npush 0\nload\ndone")
	if e != api.OK {
		panic(e)
	}
	return code
}

// recordedOf is the witness of an entry on the store behind so many, and the commit behind it.
func recordedOf(t testing.TB, table *store.Table, entry api.Entry) (api.Witness, api.Commit) {
	t.Helper()
	seen, c, e := witness.Record(table, entry)
	if e != api.OK {
		t.Fatalf("Record of %+v: %d", entry, int(e))
	}
	return seen, c
}

// recorded is the witness of the entry behind so many.
func (w world) recorded(t testing.TB, count int) api.Witness {
	t.Helper()
	seen, c := recordedOf(t, w.tables[count], w.entries[count])
	if c != w.commits[count+1] {
		t.Fatalf("Record of entry %d: %+v, not %+v", count, c, w.commits[count+1])
	}
	return seen
}

// widened is a witness with the keys of all balances and the counts beside those that it tells.
func widened(t testing.TB, table *store.Table, w api.Witness) api.Witness {
	t.Helper()
	keys := []string{"a", "ne", "no", "np", "nt", "o"}
	for _, p := range w.Pairs {
		keys = append(keys, p.Key)
	}
	for key := range table.All() {
		if key[0] == 'b' {
			keys = append(keys, key)
		}
	}
	slices.Sort(keys)
	keys = slices.Compact(keys)
	proof, e := table.Prove(keys...)
	if e != api.OK {
		t.Fatalf("Prove: %d", int(e))
	}
	wide := api.Witness{Proof: proof}
	for _, key := range keys {
		value, _ := table.Find(key)
		wide.Pairs = append(wide.Pairs, api.Pair{Key: key, Value: value})
	}
	return wide
}

// lies are commits of a right one's count that are not right, each part turned by itself, and one that is right of another count.
func (w world) lies(count int) []api.Commit {
	c := w.commits[count]
	state, outbox, more, less, none, other := c, c, c, c, c, w.commits[count/2]
	state.State[31] ^= 1
	outbox.Outbox[0] ^= 128
	more.Leaves++
	less.Leaves--
	none = api.Commit{Count: count}
	other.Count = count
	l := []api.Commit{state, outbox, more, less, none}
	if other != c {
		l = append(l, other)
	}
	return l
}

func copyOf(w api.Witness) api.Witness {
	c := api.Witness{Pairs: slices.Clone(w.Pairs), Proof: api.Proof{Marks: bytes.Clone(w.Proof.Marks), Sides: slices.Clone(w.Proof.Sides)}}
	for i := range c.Pairs {
		c.Pairs[i].Value = bytes.Clone(c.Pairs[i].Value)
	}
	return c
}

func sameWitness(a, b api.Witness) bool {
	return slices.EqualFunc(a.Pairs, b.Pairs, func(p, q api.Pair) bool { return p.Key == q.Key && bytes.Equal(p.Value, q.Value) }) &&
		bytes.Equal(a.Proof.Marks, b.Proof.Marks) && slices.Equal(a.Proof.Sides, b.Proof.Sides)
}

// forged turns a witness into others: something in it is another thing, or is missing, or is too much.
func forged(w api.Witness) []api.Witness {
	l := []api.Witness{{}}
	turned := func(turn func(c *api.Witness)) {
		c := copyOf(w)
		turn(&c)
		if !sameWitness(c, w) {
			l = append(l, c)
		}
	}
	for i := range w.Pairs {
		turned(func(c *api.Witness) { c.Pairs = slices.Delete(c.Pairs, i, i+1) })
		turned(func(c *api.Witness) { c.Pairs[i].Value = nil })
		turned(func(c *api.Witness) { c.Pairs[i].Value = append(c.Pairs[i].Value, 1) })
		turned(func(c *api.Witness) { c.Pairs[i].Key += "x" })
		turned(func(c *api.Witness) { c.Pairs[0], c.Pairs[i] = c.Pairs[i], c.Pairs[0] })
		turned(func(c *api.Witness) {
			if n := len(c.Pairs[i].Value); n > 0 {
				c.Pairs[i].Value[n-1] ^= 1
			}
		})
	}
	for i := range w.Proof.Sides {
		turned(func(c *api.Witness) { c.Proof.Sides[i][3] ^= 4 })
		turned(func(c *api.Witness) { c.Proof.Sides = slices.Delete(c.Proof.Sides, i, i+1) })
	}
	for i := range w.Proof.Marks {
		turned(func(c *api.Witness) { c.Proof.Marks[i] ^= 1 })
		turned(func(c *api.Witness) { c.Proof.Marks[i] ^= 128 })
	}
	turned(func(c *api.Witness) { c.Proof.Marks = append(c.Proof.Marks, 0) })
	turned(func(c *api.Witness) { c.Proof.Sides = append(c.Proof.Sides, api.Digest{1}) })
	turned(func(c *api.Witness) { c.Pairs = append(c.Pairs, api.Pair{Key: "zz"}) })
	return l
}
