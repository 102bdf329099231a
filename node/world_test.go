package node

import (
	"math/big"
	"slices"
	"strings"
	"sync"
	"testing"

	"causeway/api"
	"causeway/inbox"
	"causeway/letter"
	"causeway/machine"
)

const full = 1 << 40

func someone(n byte) api.Address { return api.Address{0: n, 7: n ^ 255, 19: n} }

// The admin, and others.
var (
	zed = someone(102)
	ann = someone(0)
	bob = someone(1)
	cyd = someone(2)
	dan = someone(3)
)

// people are all of whom something is asked.
func people() []api.Address {
	return []api.Address{zed, ann, bob, cyd, dan, {}, {9}, {1}, {2}}
}

func of(n uint64) api.Wide { return api.Wide{n} }

// most is the greatest amount.
func most() api.Wide { return api.Wide{1<<64 - 1, 1<<64 - 1, 1<<64 - 1, 1<<64 - 1} }

func bigOf(w api.Wide) *big.Int {
	n := new(big.Int)
	for i := 3; i >= 0; i-- {
		n.Add(n.Lsh(n, 64), new(big.Int).SetUint64(w[i]))
	}
	return n
}

func sure[T any](value T, e api.Errno) T {
	if e != api.OK {
		panic(e)
	}
	return value
}

// What stands in an inbox.

func deposit(by api.Address, token int, to api.Address, amount uint64, gas int) api.Entry {
	return api.Entry{Kind: 1, Sender: by, Token: token, To: to, Amount: of(amount), Gas: gas}
}

func sent(by api.Address, body ...byte) api.Entry {
	return api.Entry{Kind: 2, Sender: by, Body: body}
}

func written(by api.Address, l api.Letter) api.Entry { return sent(by, sure(letter.Bytes(l))...) }

func at(time int, e api.Entry) api.Entry {
	e.Time = time
	return e
}

func moneyed(kind, token int, to api.Address, amount uint64) api.Letter {
	return api.Letter{Kind: kind, Token: token, To: to, Amount: of(amount)}
}

func move(token int, to api.Address, amount uint64) api.Letter {
	return moneyed(api.LetterMove, token, to, amount)
}

func burn(token int, to api.Address, amount uint64) api.Letter {
	return moneyed(api.LetterBurn, token, to, amount)
}

func allow(token int, to api.Address, amount uint64) api.Letter {
	return moneyed(api.LetterAllow, token, to, amount)
}

func pull(token int, from, to api.Address, amount uint64) api.Letter {
	return api.Letter{Kind: api.LetterPull, Token: token, From: from, To: to, Amount: of(amount)}
}

func numbered(kind, number int) api.Letter { return api.Letter{Kind: kind, Number: number} }
func tokened(kind, token int) api.Letter   { return api.Letter{Kind: kind, Token: token} }
func coding(code []byte) api.Letter        { return api.Letter{Kind: api.LetterCode, Code: code} }
func many(parts ...api.Letter) api.Letter  { return api.Letter{Kind: api.LetterMany, Parts: parts} }

// calling is a LetterCall of a program, along with so much of a token.
func calling(number, token int, amount uint64, gas int, args ...uint64) api.Letter {
	l := api.Letter{Kind: api.LetterCall, Number: number, Token: token, Amount: of(amount), Gas: gas}
	for _, x := range args {
		l.Args = append(l.Args, of(x))
	}
	return l
}

func program(lines ...string) []byte {
	code, _, e := machine.Assemble(strings.Join(lines, "\n"))
	return sure(code, e)
}

// saver lays its second argument in the slot that the first one tells.
func saver() []byte { return program("arg 0", "arg 1", "save", "arg 0", "load", "done") }

// giver sends 1 of the token that came along to its caller.
func giver() []byte { return program("token", "caller", "push 1", "send", "time", "done") }

// chapter is the chapter's addresses and its entries: those of chapter 12's example.
func chapter() (z, s, r api.Address, l []api.Entry) {
	z, s, r = api.Address{9}, api.Address{1}, api.Address{2}
	return z, s, r, []api.Entry{
		deposit(s, 3, r, 5, 100),
		written(s, tokened(api.LetterToken, 3)),
		written(z, tokened(api.LetterToken, 3)),
		deposit(s, 3, r, 7, 100),
		deposit(s, 3, r, 1, 99),
		written(r, burn(3, s, 4)),
		written(r, numbered(api.LetterCancel, 1)),
		written(s, numbered(api.LetterCancel, 1)),
		written(r, numbered(api.LetterRetry, 2)),
		sent(r, 99),
		written(r, coding([]byte{16, 0, 1})),
		written(r, calling(1, 3, 1, 50, 8)),
		written(r, many(move(3, s, 2), move(3, s, 2))),
	}
}

// everyKind is a row of entries of all kinds, some of which are refused: tokens are made, paused and resumed, deposits are minted or become tickets, these are tried again and cancelled, allowances are laid and pulled, programs are made and called, and more leaves than one leave by one entry.
func everyKind() []api.Entry {
	l := []api.Entry{
		deposit(ann, 0, bob, 50, 100),               // 0: ticket 1
		written(zed, tokened(api.LetterToken, 0)),   // 1
		deposit(ann, 0, bob, 60, 100),               // 2: minted
		deposit(cyd, 0, dan, 7, 99),                 // 3: ticket 2
		written(ann, tokened(api.LetterToken, 1)),   // 4: refused
		written(zed, tokened(api.LetterToken, 63)),  // 5
		deposit(dan, 63, dan, 30, 200),              // 6: minted
		written(bob, burn(0, cyd, 5)),               // 7: leaf 0
		written(bob, move(0, ann, 20)),              // 8
		written(bob, allow(0, dan, 9)),              // 9
		written(dan, pull(0, bob, cyd, 4)),          // 10
		written(dan, pull(0, bob, cyd, 6)),          // 11: refused
		written(dan, numbered(api.LetterRetry, 1)),  // 12: ticket 1 is minted
		written(dan, numbered(api.LetterCancel, 2)), // 13: refused
		written(cyd, numbered(api.LetterCancel, 2)), // 14: leaf 1
		written(zed, tokened(api.LetterPause, 63)),  // 15
		deposit(ann, 63, ann, 3, 100),               // 16: ticket 3
		written(dan, burn(63, dan, 1)),              // 17: refused
		written(zed, tokened(api.LetterResume, 63)), // 18
		written(ann, coding(saver())),               // 19: program 1
		written(ann, calling(1, 0, 0, 500, 7, 8)),   // 20
		written(ann, calling(1, 0, 3, 500, 7, 0)),   // 21: the slot is nought again
		written(bob, many(burn(0, ann, 1), burn(0, bob, 2), burn(0, cyd, 3), numbered(api.LetterRetry, 3))), // 22: leaves 2, 3, 4
		written(bob, many(burn(0, ann, 1), move(0, cyd, 1000))),                                             // 23: refused, Part 2
		sent(bob),     // 24: no letter
		sent(bob, 99), // 25: no letter
		written(zed, many(tokened(api.LetterToken, 5), coding(giver()), calling(2, 5, 0, 10000))), // 26: refused, Part 3
		written(zed, many(tokened(api.LetterToken, 5), coding(giver()))),                          // 27: program 2
		written(ann, calling(2, 0, 3, 10000)),                                                     // 28
		written(ann, calling(9, 0, 3, 10000)),                                                     // 29: refused
		written(bob, allow(0, dan, 0)),                                                            // 30
		{Kind: 1, Sender: ann, Token: 5, To: bob, Amount: most(), Gas: 100},                       // 31: minted
		deposit(ann, 5, bob, 1, 100),                                                              // 32: ticket 4: the supply is full
		written(ann, numbered(api.LetterRetry, 4)),                                                // 33: refused
		{Kind: 2, Sender: bob, Body: sure(letter.Bytes(api.Letter{Kind: api.LetterBurn, Token: 5, To: ann, Amount: most()}))}, // 34: leaf 5
		written(ann, numbered(api.LetterRetry, 4)),                                  // 35: minted
		written(bob, burn(5, zed, 1)),                                               // 36: leaf 6
		deposit(bob, 9, bob, 2, 100),                                                // 37: ticket 5, which stays open
		written(dan, many(burn(63, dan, 10), burn(63, dan, 10), burn(63, dan, 10))), // 38: leaves 7, 8, 9; dan has nothing any more
		written(cyd, move(0, cyd, 1)),                                               // 39
	}
	for i := range l {
		l[i].Time = 10 * i
	}
	return l
}

// boxOf is a box with entries.
func boxOf(t testing.TB, l ...api.Entry) *inbox.Box {
	t.Helper()
	b := inbox.New()
	for i, entry := range l {
		if k, e := b.Add(entry); k != i || e != api.OK {
			t.Fatalf("Add of entry %d: %d, %d", i, k, int(e))
		}
	}
	return b
}

// inBox is what a box has.
func inBox(b *inbox.Box) []api.Entry { return sure(b.Entries(0, b.Len())) }

// other is an entry in place of another one, which is unlike it and may stand there.
func other(e api.Entry) api.Entry {
	e.Sender[3] ^= 1
	return e
}

// with is a row in which another entry stands at a place.
func with(l []api.Entry, i int, e api.Entry) []api.Entry {
	l = slices.Clone(l)
	l[i] = e
	return l
}

// and is a row with further entries, at the last one's time.
func and(l []api.Entry, more ...api.Entry) []api.Entry {
	l = slices.Clone(l)
	for _, e := range more {
		if n := len(l); n > 0 {
			e.Time = l[n-1].Time
		}
		l = append(l, e)
	}
	return l
}

// theRow is everyKind, made once. Nobody writes into it.
var theRow = sync.OnceValue(everyKind)
