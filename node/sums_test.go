package node

import (
	"fmt"
	"math/big"
	"testing"

	"causeway/api"
)

// sums are amounts by tokens, as exact numbers.
type sums map[int]*big.Int

func (s sums) add(token int, amount api.Wide) {
	if s[token] == nil {
		s[token] = new(big.Int)
	}
	s[token].Add(s[token], bigOf(amount))
}

func (s sums) of(token int) string {
	if s[token] == nil {
		return "0"
	}
	return s[token].String()
}

// wantNothingLost holds the deposits among the node's entries against supplies, open tickets and leaves, token by token.
func wantNothingLost(t testing.TB, what string, n *Node, entries []api.Entry) {
	t.Helper()
	came, are, deposits := sums{}, sums{}, 0
	for _, e := range entries {
		if e.Kind == 1 {
			came.add(e.Token, e.Amount)
			deposits++
		}
	}
	for token := range 64 {
		are.add(token, sure(n.Token(token)).Supply)
	}
	for number := 1; number <= deposits; number++ { // a deposit opens one ticket at most
		if x, e := n.Ticket(number); e == 0 {
			are.add(x.Token, x.Amount)
		}
	}
	for i := range n.Leaves() {
		x := sure(n.Leaf(i))
		are.add(x.Token, x.Amount)
	}
	for token := range 64 {
		if came.of(token) != are.of(token) {
			t.Errorf("%s: of token %d %s came, and %s are there", what, token, came.of(token), are.of(token))
		}
	}
}

// Behind every entry; and behind what was taken back.
func TestP20_11_NothingIsLost(t *testing.T) {
	l := theRow()
	b := newBoth(zed)
	for n := range len(l) + 1 {
		b.follow(t, "on", boxOf(t, l[:n]...), 2)
		wantNothingLost(t, fmt.Sprint("behind ", n), b.node, l[:n])
	}
	for n := len(l); n >= 0; n-- {
		to := and(l[:n], deposit(dan, 3, cyd, 5, 100), written(bob, burn(0, dan, 1)))
		b.follow(t, "back", boxOf(t, to...), 2)
		wantNothingLost(t, fmt.Sprint("back to ", n), b.node, to)
	}
	for what, to := range steppes(l) {
		b.follow(t, what, boxOf(t, to...), 2)
		wantNothingLost(t, what, b.node, to)
	}
}
