package node

import (
	"fmt"
	"math"
	"slices"
	"testing"

	"causeway/api"
	"causeway/digest"
	"causeway/exec"
	"causeway/inbox"
	"causeway/outbox"
	"causeway/witness"
)

func TestErrorsAndLimits(t *testing.T) {
	for _, x := range []struct {
		got    int
		wanted int
	}{
		{int(api.ErrNodeCount), 200}, {int(api.ErrNodeInbox), 201}, {int(api.ErrNodeSpan), 202}, {int(api.ErrNodeLeaf), 203},
		{int(api.ErrArg), 1}, {api.MaxWorkers, 16}, {api.MaxReplay, 32},
	} {
		if x.got != x.wanted {
			t.Errorf("%d, not %d", x.got, x.wanted)
		}
	}
}

// The chapter's examples, row by row.
func TestChapter(t *testing.T) {
	z, s, r, l := chapter()
	n, box := New(z), boxOf(t, l...)
	first := sure(exec.Commit(exec.Genesis(z)))
	if c, e := n.Commit(0); n.Count() != 0 || c != first || e != 0 || n.Leaves() != 0 {
		t.Errorf("a new node: Count %d, Commit(0) %v, %d, Leaves %d", n.Count(), c, int(e), n.Leaves())
	}
	if c, e := n.Commit(1); c != (api.Commit{}) || e != 200 {
		t.Errorf("Commit(1) of a new node: %v, %d", c, int(e))
	}
	for _, x := range []struct {
		box     *inbox.Box
		workers int
	}{{nil, 1}, {box, 0}, {box, 17}} {
		if k, e := n.Follow(x.box, x.workers); k != 0 || e != 1 || n.Count() != 0 {
			t.Errorf("Follow(%v, %d): %d, %d", x.box != nil, x.workers, k, int(e))
		}
	}
	for _, workers := range []int{4, 1} {
		if k, e := n.Follow(box, workers); k != 0 || e != 0 || n.Count() != 13 || n.Fork(box) != 13 {
			t.Errorf("Follow(B, %d): %d, %d, Count %d, Fork %d", workers, k, int(e), n.Count(), n.Fork(box))
		}
	}
	wantReceipt(t, n, 0, api.Receipt{Code: api.ErrExecTicket, Number: 1}, 0)
	wantReceipt(t, n, 12, api.Receipt{Code: api.ErrLedgerFunds, Part: 2}, 0)
	wantReceipt(t, n, 13, api.Receipt{}, 200)
	if x, e := n.Token(3); x != (api.Token{There: true, Supply: of(4)}) || e != 0 {
		t.Errorf("Token(3): %+v, %d", x, int(e))
	}
	if x, e := n.Balance(3, r); x != of(3) || e != 0 {
		t.Errorf("Balance(3, r): %v, %d", x, int(e))
	}
	wantTicket(t, n, 1, api.Ticket{}, 90)
	wantTicket(t, n, 2, api.Ticket{}, 90)
	wantLeaf(t, n, 1, api.Leaf{Index: 1, Entry: 7, Token: 3, To: s, Amount: of(5)}, 0)
	wantLeaf(t, n, 2, api.Leaf{}, 203)
	for count, wanted := range map[int]int{5: 0, 6: 1, 13: 2} {
		if c, e := n.Commit(count); c.Leaves != wanted || c.Count != count || e != 0 {
			t.Errorf("Commit(%d): %v, %d", count, c, int(e))
		}
	}
	chapterPaths(t, n)
	chapterWitnesses(t, n, l)
	if x, e := n.Token(64); x != (api.Token{}) || e != 80 {
		t.Errorf("Token(64): %+v, %d", x, int(e))
	}
	if x, e := n.Balance(-1, z); x != (api.Wide{}) || e != 80 {
		t.Errorf("Balance(-1, z): %v, %d", x, int(e))
	}
	wantTicket(t, n, 0, api.Ticket{}, 90)
	five := boxOf(t, and(l[:5], deposit(s, 3, r, 6, 100))...)
	if k, e := n.Follow(five, 2); k != 8 || e != 0 || n.Count() != 6 || n.Leaves() != 0 {
		t.Errorf("Follow(another box): %d, %d, Count %d, Leaves %d", k, int(e), n.Count(), n.Leaves())
	}
}

func chapterPaths(t *testing.T, n *Node) {
	t.Helper()
	second, _ := n.Leaf(1)
	if p, e := n.Path(0, 1); len(p) != 0 || e != 0 {
		t.Errorf("Path(0, 1): %x, %d", p, int(e))
	}
	if p, e := n.Path(0, 2); len(p) != 1 || e != 0 || p[0] != digest.Parts([]byte{0}, sure(outbox.Bytes(second))) {
		t.Errorf("Path(0, 2): %x, %d", p, int(e))
	}
	for _, x := range []struct{ index, size int }{{1, 1}, {0, 3}} {
		if p, e := n.Path(x.index, x.size); len(p) != 0 || e != 203 {
			t.Errorf("Path(%d, %d): %x, %d", x.index, x.size, p, int(e))
		}
	}
}

func chapterWitnesses(t *testing.T, n *Node, l []api.Entry) {
	t.Helper()
	z, _, _, _ := chapter()
	wanted, _, _ := witness.Record(exec.Genesis(z), l[0])
	if w, e := n.Witness(0, 1); e != 0 || !sameWitness(w, wanted) || len(w.Pairs) != 4 {
		t.Errorf("Witness(0, 1): %x, %d, not %x", w, int(e), wanted)
	}
	for _, x := range []span{{3, 3}, {12, 14}, {-1, 1}} {
		if w, e := n.Witness(x.from, x.to); e != 202 || !sameWitness(w, api.Witness{}) {
			t.Errorf("Witness(%d, %d): %x, %d", x.from, x.to, w, int(e))
		}
	}
}

func wantReceipt(t testing.TB, n *Node, number int, wanted api.Receipt, code int) {
	t.Helper()
	if got, e := n.Receipt(number); got != wanted || int(e) != code {
		t.Errorf("Receipt(%d): %+v, %d, not %+v, %d", number, got, int(e), wanted, code)
	}
}

func wantTicket(t testing.TB, n *Node, number int, wanted api.Ticket, code int) {
	t.Helper()
	if got, e := n.Ticket(number); got != wanted || int(e) != code {
		t.Errorf("Ticket(%d): %+v, %d, not %+v, %d", number, got, int(e), wanted, code)
	}
}

func wantLeaf(t testing.TB, n *Node, index int, wanted api.Leaf, code int) {
	t.Helper()
	if got, e := n.Leaf(index); got != wanted || int(e) != code {
		t.Errorf("Leaf(%d): %+v, %d, not %+v, %d", index, got, int(e), wanted, code)
	}
}

func wantToken(t testing.TB, n *Node, token int, wanted api.Token) {
	t.Helper()
	if got, e := n.Token(token); got != wanted || e != 0 {
		t.Errorf("Token(%d): %+v, %d, not %+v", token, got, int(e), wanted)
	}
}

func wantBalance(t testing.TB, n *Node, token int, who api.Address, wanted uint64) {
	t.Helper()
	if got, e := n.Balance(token, who); got != of(wanted) || e != 0 {
		t.Errorf("Balance(%d, %x): %v, %d, not %d", token, who[:2], got, int(e), wanted)
	}
}

func TestP20_1_New(t *testing.T) {
	for _, admin := range people() {
		b := newBoth(admin)
		b.wantTold(t, "a new one")
		if got := b.node.Fork(inbox.New()); got != 0 {
			t.Errorf("Fork of an empty box: %d", got)
		}
	}
	if New(zed) == New(zed) {
		t.Error("New gives one node twice")
	}
	if a, b := sure(New(ann).Commit(0)), sure(New(bob).Commit(0)); a == b {
		t.Error("two admins, one commit")
	}
}

// The admin is who makes tokens, and nobody else.
func TestP20_1_Admin(t *testing.T) {
	for _, admin := range []api.Address{zed, ann, {}} {
		b := newBoth(admin).row(t, "tokens", 2, written(zed, tokened(api.LetterToken, 1)), written(ann, tokened(api.LetterToken, 2)), written(api.Address{}, tokened(api.LetterToken, 3)))
		for i, who := range []api.Address{zed, ann, {}} {
			if got, _ := b.node.Token(i + 1); got.There != (who == admin) {
				t.Errorf("token %d: %+v", i+1, got)
			}
		}
	}
}

func TestP20_2_Arguments(t *testing.T) {
	l := theRow()
	for _, n := range []int{0, 1, 7} {
		b := newBoth(zed).row(t, "ahead", 2, l[:n]...)
		for _, box := range []*inbox.Box{nil, inbox.New(), boxOf(t, l[:n]...), boxOf(t, l[:9]...)} {
			for _, workers := range []int{math.MinInt, -17, -1, 0, 17, 18, 1 << 32, 1<<32 + 1, math.MaxInt} {
				if k, e := b.node.Follow(box, workers); k != 0 || e != 1 {
					t.Errorf("Follow with %d workers: %d, %d", workers, k, int(e))
				}
			}
		}
		for workers := 1; workers <= 16; workers++ {
			if k, e := b.node.Follow(nil, workers); k != 0 || e != 1 {
				t.Errorf("Follow(nil, %d): %d, %d", workers, k, int(e))
			}
		}
		b.wantTold(t, "behind what was refused")
	}
	for workers := 1; workers <= 16; workers++ {
		newBoth(zed).row(t, fmt.Sprint(workers, " workers"), workers, l[:9]...)
	}
}

// steppes are the rows that a node that has followed some others may be led to.
func steppes(l []api.Entry) map[string][]api.Entry {
	n := len(l)
	return map[string][]api.Entry{
		"none":             nil,
		"the same":         l,
		"one more":         and(l, deposit(ann, 0, bob, 3, 100)),
		"three more":       and(l, written(bob, burn(0, ann, 1)), sent(dan), deposit(ann, 0, bob, 3, 100)),
		"one fewer":        l[:n-1],
		"half":             l[:n/2],
		"the first alone":  l[:1],
		"another last":     with(l, n-1, other(l[n-1])),
		"another middle":   with(l, n/2, other(l[n/2])),
		"another first":    with(l, 0, other(l[0])),
		"nothing alike":    {deposit(dan, 7, ann, 9, 100), written(zed, tokened(api.LetterToken, 7)), deposit(dan, 7, ann, 9, 100), written(ann, burn(7, zed, 4))},
		"the last ones":    l[n-3:],
		"changed about":    and(nil, append(slices.Clone(l[n/2:]), l[:n/2]...)...),
		"shorter, another": and(l[:n/2], written(zed, tokened(api.LetterPause, 0)), written(bob, burn(0, ann, 1))),
		"one put between":  and(l[:n/3], append([]api.Entry{sent(ann, 1)}, l[n/3:]...)...),
		"one left out":     append(slices.Clone(l[:n/3]), l[n/3+1:]...),
	}
}

// Fork tells how far a box goes along, and turns nothing; Follow takes back what is behind, and executes what is new. Then all is told as by a new node, and the node goes back likewise.
func TestP20_2_Follow(t *testing.T) {
	l := theRow()
	for what, to := range steppes(l) {
		b := newBoth(zed).row(t, "ahead", 3, l...)
		box := boxOf(t, to...)
		if got, wanted := b.node.Fork(box), common(l, to); got != wanted {
			t.Errorf("%s: Fork is %d, not %d", what, got, wanted)
		}
		b.wantTold(t, what+", asked alone")
		b.follow(t, what, box, 2)
		b.wantSpans(t, what, manySpans(len(to)))
		b.follow(t, what+", again", box, 5)
		b.wantTold(t, what+", again")
		b.row(t, what+", and back", 1, l...)
	}
}

// From each row to each other one.
func TestP20_2_FromEachToEach(t *testing.T) {
	rows := steppes(theRow()[:14])
	for from, one := range rows {
		for to, two := range rows {
			newBoth(zed).row(t, from, 4, one...).row(t, from+", then "+to, 4, two...)
		}
	}
}

// unlike are entries that differ from another one in one field alone, and may be.
func unlike(e api.Entry) map[string]api.Entry {
	l := map[string]api.Entry{}
	turn := func(what string, f func(*api.Entry)) {
		x := e
		x.Body = slices.Clone(e.Body)
		f(&x)
		l[what] = x
	}
	for i := range e.Sender {
		turn(fmt.Sprint("Sender ", i), func(x *api.Entry) { x.Sender[i] ^= 1 << (i % 8) })
	}
	turn("Time", func(x *api.Entry) { x.Time++ })
	if e.Kind == 2 {
		turn("Body longer", func(x *api.Entry) { x.Body = append(x.Body, 0) })
		for i := range e.Body {
			turn(fmt.Sprint("Body ", i), func(x *api.Entry) { x.Body[i] ^= 1 << (i % 8) })
		}
		if len(e.Body) > 0 {
			turn("Body shorter", func(x *api.Entry) { x.Body = x.Body[:len(x.Body)-1] })
		}
		turn("no Body", func(x *api.Entry) { x.Body = nil })
		turn("another Kind", func(x *api.Entry) { x.Kind, x.Body, x.Amount = 1, nil, of(1) })
		return l
	}
	for i := range e.To {
		turn(fmt.Sprint("To ", i), func(x *api.Entry) { x.To[i] ^= 1 << (i % 8) })
	}
	turn("Token", func(x *api.Entry) { x.Token ^= 1 })
	turn("Token, far", func(x *api.Entry) { x.Token ^= 32 })
	for i := range e.Amount {
		turn(fmt.Sprint("Amount ", i), func(x *api.Entry) { x.Amount[i] += 1 << 40 })
	}
	turn("Gas", func(x *api.Entry) { x.Gas++ })
	turn("Gas, far", func(x *api.Entry) { x.Gas += 1 << 33 })
	turn("another Kind", func(x *api.Entry) {
		*x = api.Entry{Kind: 2, Sender: x.Sender, Time: x.Time}
	})
	return l
}

// A box that is unlike at its first, a middle and its last entry, in each field alone; all else is alike again behind it.
func TestP20_2_UnlikeInOneField(t *testing.T) {
	z, s, r, l := chapter()
	for i := range l {
		l[i].Time = 10 * i
	}
	l = append(l, at(1000, deposit(s, 3, r, 2, 100)))
	for _, i := range []int{0, 5, 4, len(l) - 1} {
		for what, e := range unlike(l[i]) {
			if alike(e, l[i]) {
				continue // no Body, where there was none
			}
			what := fmt.Sprint("entry ", i, ", ", what)
			b := newBoth(z).row(t, "ahead", 3, l...)
			b.row(t, what, 3, with(l, i, e)...)
			if got := b.node.Fork(boxOf(t, l...)); got != i {
				t.Errorf("%s: Fork is %d", what, got)
			}
			b.row(t, what+", back", 3, l...)
		}
	}
}

func TestP20_1_ForkOfMany(t *testing.T) {
	l := theRow()
	b := newBoth(zed).row(t, "ahead", 2, l...)
	for n := range len(l) + 1 {
		if got := b.node.Fork(boxOf(t, l[:n]...)); got != n {
			t.Errorf("Fork of the first %d: %d", n, got)
		}
		short := newBoth(zed)
		short.follow(t, "short", boxOf(t, l[:n]...), 2)
		if got := short.node.Fork(boxOf(t, l...)); got != n {
			t.Errorf("Fork of all, by the first %d: %d", n, got)
		}
		if n < len(l) {
			if got := b.node.Fork(boxOf(t, with(l, n, other(l[n]))...)); got != n {
				t.Errorf("Fork, unlike at %d: %d", n, got)
			}
		}
		if short.node.Fork(nil) != 0 || short.node.Count() != n {
			t.Error("Fork(nil)")
		}
	}
	b.wantTold(t, "asked alone")
}

// The entries may come by one Follow or by many, on whatever way, with however many workers.
func TestP20_8_NoPast(t *testing.T) {
	l := theRow()
	for _, workers := range []int{1, 2, 3, 16} {
		for _, stride := range []int{1, 2, 3, 7, 32, 33, len(l)} {
			b, box := newBoth(zed), inbox.New()
			for i, e := range l {
				if _, f := box.Add(e); f != 0 {
					t.Fatal(f)
				}
				if i%stride == stride-1 {
					b.follow(t, "on the way", box, workers)
				}
			}
			b.follow(t, "at last", box, workers)
			b.wantTold(t, fmt.Sprint(workers, " workers, by ", stride))
		}
	}
}

// Behind each count the way on is left and come back to.
func TestP20_8_Detours(t *testing.T) {
	l := theRow()
	b := newBoth(zed)
	for n := range len(l) + 1 {
		for _, back := range []int{0, n / 2, max(0, n-1)} {
			b.follow(t, "a detour", boxOf(t, and(l[:back], deposit(dan, 0, cyd, 5, 100), written(cyd, burn(0, dan, 1)), deposit(dan, 40, cyd, 5, 100), written(dan, coding(giver())))...), 1+n%16)
		}
		b.row(t, fmt.Sprint("behind the detours of ", n), 1+n%16, l[:n]...)
	}
	b.wantSpans(t, "at last", allSpans(len(l)))
}

func TestP20_3_CommitAndReceipt(t *testing.T) {
	l := theRow()
	for _, n := range []int{0, 1, 2, 31, 32, 33, len(l)} {
		b := newBoth(zed).row(t, fmt.Sprint(n), 2, l[:n]...) // with all numbers that are outside
		for i := range n + 1 {
			c, _ := b.node.Commit(i)
			if again := sure(newBoth(zed).row(t, "alone", 1, l[:i]...).node.Commit(i)); c != again || c.Count != i {
				t.Errorf("Commit(%d) of %d: %v, alone %v", i, n, c, again)
			}
		}
	}
	b := newBoth(zed).row(t, "all", 2, l...)
	for number, wanted := range map[int]api.Receipt{
		0:  {Code: api.ErrExecTicket, Number: 1},
		1:  {},
		4:  {Code: api.ErrExecAdmin},
		7:  {First: 0, Leaves: 1},
		11: {Code: api.ErrLedgerAllowed},
		13: {Code: api.ErrTicketSender},
		14: {First: 1, Leaves: 1},
		16: {Code: api.ErrExecTicket, Number: 3},
		17: {Code: api.ErrLedgerPaused},
		19: {Number: 1},
		20: {Value: of(8), Gas: 407},
		22: {First: 2, Leaves: 3},
		23: {Code: api.ErrLedgerFunds, Part: 2},
		24: {Code: api.ErrExecLetter},
		25: {Code: api.ErrExecLetter},
		26: {Code: api.ErrLedgerFunds, Part: 3},
		27: {Number: 2},
		28: {Value: of(280), Gas: 508},
		29: {Code: api.ErrExecProgram},
		32: {Code: api.ErrExecTicket, Number: 4},
		33: {Code: api.ErrLedgerOver},
		38: {First: 7, Leaves: 3},
	} {
		wantReceipt(t, b.node, number, wanted, 0)
	}
}

// What is told of tokens, balances and tickets is what is there behind all entries, and no more behind those that were taken back.
func TestP20_4_Ledger(t *testing.T) {
	l := theRow()
	b := newBoth(zed)
	wantToken(t, b.node, 0, api.Token{})
	wantBalance(t, b.node, 0, bob, 0)
	wantTicket(t, b.node, 1, api.Ticket{}, 90)
	b.row(t, "a ticket", 2, l[:1]...)
	wantTicket(t, b.node, 1, api.Ticket{Number: 1, Entry: 0, Sender: ann, Token: 0, To: bob, Amount: of(50)}, 0)
	b.row(t, "minted", 2, l[:4]...)
	wantToken(t, b.node, 0, api.Token{There: true, Supply: of(60)})
	wantBalance(t, b.node, 0, bob, 60)
	wantTicket(t, b.node, 2, api.Ticket{Number: 2, Entry: 3, Sender: cyd, Token: 0, To: dan, Amount: of(7)}, 0)
	b.row(t, "moved and burned", 2, l[:11]...)
	wantToken(t, b.node, 0, api.Token{There: true, Supply: of(55)})
	wantBalance(t, b.node, 0, bob, 31)
	wantBalance(t, b.node, 0, ann, 20)
	wantBalance(t, b.node, 0, cyd, 4)
	b.row(t, "closed", 2, l[:16]...)
	wantToken(t, b.node, 63, api.Token{There: true, Paused: true, Supply: of(30)})
	wantBalance(t, b.node, 0, bob, 81)
	wantTicket(t, b.node, 1, api.Ticket{}, 90)
	wantTicket(t, b.node, 2, api.Ticket{}, 90)
	b.row(t, "all", 2, l...)
	wantBalance(t, b.node, 63, dan, 0)
	wantToken(t, b.node, 5, api.Token{There: true})
	wantTicket(t, b.node, 5, api.Ticket{Number: 5, Entry: 37, Sender: bob, Token: 9, To: bob, Amount: of(2)}, 0)
	b.row(t, "back", 2, l[:4]...)
	wantBalance(t, b.node, 0, bob, 60)
	wantTicket(t, b.node, 1, api.Ticket{Number: 1, Entry: 0, Sender: ann, Token: 0, To: bob, Amount: of(50)}, 0)
	wantToken(t, b.node, 63, api.Token{})
	b.row(t, "nothing", 2)
	wantToken(t, b.node, 0, api.Token{})
	wantTicket(t, b.node, 1, api.Ticket{}, 90)
	for _, token := range []int{math.MinInt, -1, 64, 65, 256, math.MaxInt} {
		if x, e := b.node.Token(token); x != (api.Token{}) || e != 80 {
			t.Errorf("Token(%d): %+v, %d", token, x, int(e))
		}
		if x, e := b.node.Balance(token, bob); x != (api.Wide{}) || e != 80 {
			t.Errorf("Balance(%d): %v, %d", token, x, int(e))
		}
	}
	for _, number := range []int{math.MinInt, -1, 0, 1, full, full + 1, math.MaxInt} {
		wantTicket(t, b.node, number, api.Ticket{}, 90)
	}
}

func TestP20_5_Leaves(t *testing.T) {
	l := theRow()
	b := newBoth(zed)
	for n, wanted := range map[int]int{0: 0, 7: 0, 8: 1, 14: 1, 15: 2, 22: 2, 23: 5, 24: 5, 35: 6, 38: 7, 39: 10, 40: 10} {
		b.row(t, fmt.Sprint(n, " entries"), 3, l[:n]...) // all indices and sizes, and those outside
		if got := b.node.Leaves(); got != wanted {
			t.Errorf("Leaves of %d entries: %d, not %d", n, got, wanted)
		}
	}
	b.row(t, "all", 3, l...)
	wantLeaf(t, b.node, 0, api.Leaf{Index: 0, Entry: 7, Token: 0, To: cyd, Amount: of(5)}, 0)
	wantLeaf(t, b.node, 1, api.Leaf{Index: 1, Entry: 14, Token: 0, To: cyd, Amount: of(7)}, 0)
	wantLeaf(t, b.node, 3, api.Leaf{Index: 3, Entry: 22, Token: 0, To: bob, Amount: of(2)}, 0)
	wantLeaf(t, b.node, 5, api.Leaf{Index: 5, Entry: 34, Token: 5, To: ann, Amount: most()}, 0)
	wantLeaf(t, b.node, 9, api.Leaf{Index: 9, Entry: 38, Token: 63, To: dan, Amount: of(10)}, 0)
	wantLeaf(t, b.node, 10, api.Leaf{}, 203)
	wantLeaf(t, b.node, -1, api.Leaf{}, 203)
}

// Each witness is what is recorded over the store behind the entries ahead of it; 32 entries, and no more.
func TestP20_6_Witness(t *testing.T) {
	l := theRow()
	b := newBoth(zed).row(t, "all", 3, l...)
	b.wantSpans(t, "each", allSpans(len(l)))
	for _, x := range []span{{0, 32}, {8, 40}, {3, 35}} {
		if w, e := b.node.Witness(x.from, x.to); e != 0 || len(w.Pairs) == 0 {
			t.Errorf("Witness(%d, %d): %d pairs, %d", x.from, x.to, len(w.Pairs), int(e))
		}
	}
	for _, x := range []span{{0, 33}, {7, 40}, {0, 40}, {8, 41}, {5, 5}, {5, 4}, {-1, 5}, {40, 40}, {39, 41}, {math.MaxInt, math.MinInt}} {
		if w, e := b.node.Witness(x.from, x.to); e != 202 || !sameWitness(w, api.Witness{}) {
			t.Errorf("Witness(%d, %d): %x, %d", x.from, x.to, w, int(e))
		}
	}
	b.wantTold(t, "asked alone")
}

// Each witness, replayed over the commit ahead of its entries, comes to the commit behind them.
func TestP20_9_DoneAgain(t *testing.T) {
	l := theRow()
	b := newBoth(zed).row(t, "a detour", 3, steppes(l)["another middle"]...).row(t, "all", 3, l...)
	for _, x := range allSpans(len(l)) {
		w, e := b.node.Witness(x.from, x.to)
		low, high := sure(b.node.Commit(x.from)), sure(b.node.Commit(x.to))
		if c, f := witness.Replay(low, w, l[x.from:x.to]...); c != high || e != 0 || f != 0 {
			t.Errorf("%v: %v, %d, %d, not %v", x, c, int(e), int(f), high)
		}
		if _, f := witness.Bytes(w); f != 0 {
			t.Errorf("%v: %d", x, int(f))
		}
	}
}

// Each leaf is shown under each commit that has it, and the receipts tell all leaves, in order.
func TestP20_10_Shown(t *testing.T) {
	l := theRow()
	b := newBoth(zed).row(t, "a detour", 3, steppes(l)["changed about"]...).row(t, "all", 3, l...)
	wantShown(t, "all", b.node)
	for n := range len(l) {
		wantShown(t, fmt.Sprint(n), newBoth(zed).row(t, "some", 2, l[:n]...).node)
	}
}

func wantShown(t testing.TB, what string, n *Node) {
	t.Helper()
	for count := range n.Count() + 1 {
		c := sure(n.Commit(count))
		for i := range c.Leaves {
			if e := outbox.Check(c.Outbox, c.Leaves, sure(n.Leaf(i)), sure(n.Path(i, c.Leaves))); e != 0 {
				t.Errorf("%s: leaf %d under the commit behind %d: %d", what, i, count, int(e))
			}
		}
	}
	next := 0
	for number := range n.Count() {
		r := sure(n.Receipt(number))
		if r.Leaves > 0 && r.First != next || r.Leaves == 0 && r.First != 0 {
			t.Errorf("%s: receipt %d: %+v, while %d leaves are ahead", what, number, r, next)
		}
		for range r.Leaves {
			if leaf, e := n.Leaf(next); leaf.Index != next || leaf.Entry != number || e != 0 {
				t.Errorf("%s: leaf %d of entry %d is %+v, %d", what, next, number, leaf, int(e))
			}
			next++
		}
		if got := sure(n.Commit(number + 1)).Leaves; got != next {
			t.Errorf("%s: the commit behind %d tells %d leaves, not %d", what, number+1, got, next)
		}
	}
	if n.Leaves() != next {
		t.Errorf("%s: %d leaves, and %d in receipts", what, n.Leaves(), next)
	}
}
