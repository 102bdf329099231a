package node

import (
	"bytes"
	"fmt"
	"math"
	"reflect"
	"slices"
	"testing"

	"causeway/api"
	"causeway/exec"
	"causeway/inbox"
	"causeway/ledger"
	"causeway/outbox"
	"causeway/store"
	"causeway/ticket"
	"causeway/witness"
)

// said is the second reckoning: a node is its admin and its entries. They are executed anew, each over a table of its own, by exec.Run. Errors and limits are written out, not taken from api.
type said struct {
	entries  []api.Entry
	tables   []*store.Table // by how many entries there are
	commits  []api.Commit
	receipts []api.Receipt
	leaves   []api.Leaf
}

func reckon(admin api.Address, entries []api.Entry) *said {
	table := exec.Genesis(admin)
	s := &said{entries: entries, tables: []*store.Table{table.Copy()}, commits: []api.Commit{sure(exec.Commit(table))}}
	for i, entry := range entries {
		receipt, leaves, e := exec.Run(table, i, entry)
		if e != api.OK {
			panic(e)
		}
		s.tables, s.commits = append(s.tables, table.Copy()), append(s.commits, sure(exec.Commit(table)))
		s.receipts, s.leaves = append(s.receipts, receipt), append(s.leaves, leaves...)
	}
	return s
}

// state is one over the store behind all entries.
func (s *said) state() *store.State { return sure(store.Over(s.tables[len(s.entries)])) }

// book has the leaves.
func (s *said) book() *outbox.Book {
	b := outbox.New()
	for _, l := range s.leaves {
		if e := b.Put(l); e != api.OK {
			panic(e)
		}
	}
	return b
}

// deposits is how many there are: there can be no more tickets.
func (s *said) deposits() int {
	n := 0
	for _, e := range s.entries {
		if e.Kind == 1 {
			n++
		}
	}
	return n
}

// alike tells by the words whether two entries are the same in every field.
func alike(a, b api.Entry) bool {
	same := bytes.Equal(a.Body, b.Body)
	a.Body, b.Body = nil, nil
	return same && reflect.DeepEqual(a, b)
}

// common is by the words how many first entries two rows have in common.
func common(a, b []api.Entry) int {
	k := 0
	for k < len(a) && k < len(b) && alike(a[k], b[k]) {
		k++
	}
	return k
}

func sameWitness(a, b api.Witness) bool {
	return slices.EqualFunc(a.Pairs, b.Pairs, func(p, q api.Pair) bool { return p.Key == q.Key && bytes.Equal(p.Value, q.Value) }) &&
		bytes.Equal(a.Proof.Marks, b.Proof.Marks) && slices.Equal(a.Proof.Sides, b.Proof.Sides)
}

// span is from which entry up to which a witness is asked for.
type span struct{ from, to int }

// allSpans are those of so many entries that a witness may be asked for.
func allSpans(count int) []span {
	var l []span
	for from := range count {
		for to := from + 1; to <= min(count, from+32); to++ {
			l = append(l, span{from, to})
		}
	}
	return l
}

// manySpans are, of each first entry, the shortest and the longest one; few, where little time is given.
func manySpans(count int) []span {
	if testing.Short() {
		return someSpans(count)
	}
	var l []span
	for from := range count {
		l = append(l, span{from, from + 1}, span{from, min(count, from+32)})
	}
	return l
}

// someSpans are few of them: the first, the last and the longest ones.
func someSpans(count int) []span {
	var l []span
	for _, x := range []span{{0, 1}, {0, min(32, count)}, {count / 2, count/2 + 1}, {max(0, count-32), count}, {count - 1, count}} {
		if x.from >= 0 && x.from < x.to && x.to <= count {
			l = append(l, x)
		}
	}
	return l
}

// outside are numbers that name nothing of so many things.
func outside(count int) []int {
	return []int{math.MinInt, -count - 1, -1, count, count + 1, full, math.MaxInt}
}

// differ tells where a node tells something else than the words; nothing, if it does not.
func (s *said) differ(n *Node, spans []span) string {
	for _, text := range []string{s.differCounted(n), s.differLedger(n), s.differLeaves(n), s.differWitness(n, spans)} {
		if text != "" {
			return text
		}
	}
	return ""
}

func (s *said) differCounted(n *Node) string {
	count := len(s.entries)
	if n.Count() != count {
		return fmt.Sprintf("Count is %d, not %d", n.Count(), count)
	}
	for i, wanted := range s.commits {
		if got, e := n.Commit(i); got != wanted || e != 0 {
			return fmt.Sprintf("Commit(%d) is %v, %d, not %v", i, got, int(e), wanted)
		}
	}
	for i, wanted := range s.receipts {
		if got, e := n.Receipt(i); got != wanted || e != 0 {
			return fmt.Sprintf("Receipt(%d) is %+v, %d, not %+v", i, got, int(e), wanted)
		}
	}
	for _, i := range outside(count + 1) {
		if got, e := n.Commit(i); got != (api.Commit{}) || e != 200 {
			return fmt.Sprintf("Commit(%d) of %d is %v, %d", i, count, got, int(e))
		}
	}
	for _, i := range outside(count) {
		if got, e := n.Receipt(i); got != (api.Receipt{}) || e != 200 {
			return fmt.Sprintf("Receipt(%d) of %d is %+v, %d", i, count, got, int(e))
		}
	}
	return ""
}

func (s *said) differLedger(n *Node) string {
	state := s.state()
	tokens := outside(64)
	for token := range 64 {
		tokens = append(tokens, token)
	}
	for _, token := range tokens {
		wanted, f := ledger.Token(state, token)
		if got, e := n.Token(token); got != wanted || e != f {
			return fmt.Sprintf("Token(%d) is %+v, %d, not %+v, %d", token, got, int(e), wanted, int(f))
		}
		if (token < 0 || token > 63) && f != 80 {
			return fmt.Sprintf("ledger.Token(%d) answers %d", token, int(f))
		}
		if token > 5 && token < 63 { // few of them have anything
			continue
		}
		for _, who := range people() {
			wanted, f := ledger.Balance(state, token, who)
			if got, e := n.Balance(token, who); got != wanted || e != f {
				return fmt.Sprintf("Balance(%d, %x) is %v, %d, not %v, %d", token, who[:2], got, int(e), wanted, int(f))
			}
		}
	}
	for _, number := range outside(s.deposits() + 2) {
		if got, e := n.Ticket(number); got != (api.Ticket{}) || e != 90 {
			return fmt.Sprintf("Ticket(%d) is %+v, %d", number, got, int(e))
		}
	}
	for number := range s.deposits() + 2 {
		wanted, f := ticket.Find(state, number)
		if got, e := n.Ticket(number); got != wanted || e != f {
			return fmt.Sprintf("Ticket(%d) is %+v, %d, not %+v, %d", number, got, int(e), wanted, int(f))
		}
	}
	return ""
}

func (s *said) differLeaves(n *Node) string {
	count, book := len(s.leaves), s.book()
	if n.Leaves() != count {
		return fmt.Sprintf("Leaves is %d, not %d", n.Leaves(), count)
	}
	for i, wanted := range s.leaves {
		if got, e := n.Leaf(i); got != wanted || e != 0 {
			return fmt.Sprintf("Leaf(%d) is %+v, %d, not %+v", i, got, int(e), wanted)
		}
	}
	for _, i := range outside(count) {
		if got, e := n.Leaf(i); got != (api.Leaf{}) || e != 203 {
			return fmt.Sprintf("Leaf(%d) of %d is %+v, %d", i, count, got, int(e))
		}
	}
	for size := range count + 1 {
		for index := range size {
			wanted := sure(book.Path(index, size))
			if got, e := n.Path(index, size); !slices.Equal(got, wanted) || e != 0 {
				return fmt.Sprintf("Path(%d, %d) is %x, %d, not %x", index, size, got, int(e), wanted)
			}
		}
		for _, index := range outside(size) {
			if got, e := n.Path(index, size); len(got) != 0 || e != 203 {
				return fmt.Sprintf("Path(%d, %d) is %x, %d", index, size, got, int(e))
			}
		}
	}
	for _, size := range append(outside(count+1), 0) {
		for _, index := range []int{math.MinInt, -1, 0, count - 1, count, size, math.MaxInt} {
			if got, e := n.Path(index, size); len(got) != 0 || e != 203 {
				return fmt.Sprintf("Path(%d, %d) of %d is %x, %d", index, size, count, got, int(e))
			}
		}
	}
	return ""
}

func (s *said) differWitness(n *Node, spans []span) string {
	count := len(s.entries)
	for _, x := range spans {
		wanted, _, f := witness.Record(s.tables[x.from].Copy(), s.entries[x.from:x.to]...)
		if got, e := n.Witness(x.from, x.to); e != 0 || f != 0 || !sameWitness(got, wanted) {
			return fmt.Sprintf("Witness(%d, %d) is %x, %d, not %x, %d", x.from, x.to, got, int(e), wanted, int(f))
		}
	}
	wrong := []span{{0, 0}, {count, count}, {count - 1, count + 1}, {-1, 0}, {-1, 1}, {-1, count}, {0, -1}, {0, count + 1}, {1, 0}, {count, count - 1}, {count, count + 1}, {count + 1, count + 2}, {0, 33}, {count - 33, count}, {count - 32, count + 1},
		{math.MinInt, math.MaxInt}, {math.MaxInt, math.MinInt}, {math.MaxInt, math.MinInt + 5}, {math.MinInt, math.MinInt + 1}, {math.MaxInt - 1, math.MaxInt}, {0, math.MinInt}, {0, math.MaxInt}, {math.MinInt, 1}, {math.MaxInt, 1}}
	for _, x := range wrong {
		if got, e := n.Witness(x.from, x.to); e != 202 || !sameWitness(got, api.Witness{}) {
			return fmt.Sprintf("Witness(%d, %d) of %d is %x, %d", x.from, x.to, count, got, int(e))
		}
	}
	return ""
}

// both is a node, and its entries by the words.
type both struct {
	node    *Node
	admin   api.Address
	entries []api.Entry
}

func newBoth(admin api.Address) *both { return &both{node: New(admin), admin: admin} }

// wantTold holds all that the node tells against the words.
func (b *both) wantTold(t testing.TB, what string) {
	t.Helper()
	b.wantSpans(t, what, someSpans(len(b.entries)))
}

func (b *both) wantSpans(t testing.TB, what string, spans []span) {
	t.Helper()
	if text := reckon(b.admin, b.entries).differ(b.node, spans); text != "" {
		t.Errorf("%s: %s", what, text)
	}
}

// follow lets the node follow a box, which must stay as it is: so many must be taken back.
func (b *both) follow(t testing.TB, what string, box *inbox.Box, workers int) {
	t.Helper()
	l, link := inBox(box), sure(box.Link(box.Len()))
	k := common(b.entries, l)
	if got := b.node.Fork(box); got != k {
		t.Errorf("%s: Fork is %d, not %d", what, got, k)
	}
	if got, e := b.node.Follow(box, workers); got != len(b.entries)-k || e != 0 {
		t.Errorf("%s: Follow is %d, %d, not %d", what, got, int(e), len(b.entries)-k)
	}
	b.entries = l
	if got := b.node.Fork(box); got != len(l) {
		t.Errorf("%s: behind Follow Fork is %d, not %d", what, got, len(l))
	}
	if got := inBox(box); !slices.EqualFunc(got, l, alike) || sure(box.Link(box.Len())) != link {
		t.Errorf("%s: the box has turned", what)
	}
}

// row lets the node follow a new box with these entries, and holds all against the words.
func (b *both) row(t testing.TB, what string, workers int, l ...api.Entry) *both {
	t.Helper()
	b.follow(t, what, boxOf(t, l...), workers)
	b.wantTold(t, what)
	return b
}
