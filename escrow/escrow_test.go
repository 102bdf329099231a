package escrow

import (
	"fmt"
	"math"
	"testing"

	"causeway/api"
)

const (
	all  = 1<<64 - 1
	full = 1 << 40
)

func of(n uint64) api.Wide { return api.Wide{n} }

// greatest is 2^256 - 1; less is so much less than that.
func greatest() api.Wide        { return api.Wide{all, all, all, all} }
func less(by uint64) api.Wide   { return api.Wide{all - by, all, all, all} }
func list(token int) call       { return call{name: "List", token: token} }
func lock(amount api.Wide) call { return call{name: "Lock", amount: amount} }
func free(amount api.Wide) call { return call{name: "Free", amount: amount} }

func stop(token int, stopped bool) call {
	return call{name: "Stop", token: token, stop: stopped}
}

func deposit(token int, amount api.Wide) call {
	return call{name: "Deposit", token: token, amount: amount}
}

func pay(index, token int, amount api.Wide) call {
	return call{name: "Pay", index: index, token: token, amount: amount}
}

// both is a vault, and what it is by the words.
type both struct {
	vault *Vault
	said  *said
}

func newBoth() both { return both{New(), newSaid()} }

func (b both) copied() both { return both{b.vault.Copy(), b.said.copied()} }

// indices are the edges, and those that were paid with their neighbours.
func (b both) indices() []int {
	asked := edgeIndices()
	for _, index := range b.said.paid {
		asked = append(asked, index-64, index-1, index, index+1, index+64, -index)
	}
	return asked
}

// wantTold holds all that the vault tells against the words.
func (b both) wantTold(t testing.TB, what string) {
	t.Helper()
	asked := b.indices()
	if text := tellVault(b.vault, asked).differ(tellWords(b.said, asked), asked); text != "" {
		t.Errorf("%s: %s", what, text)
	}
}

// do makes a call in both: they must answer the same and tell the same behind it; if it is refused, the same as ahead of it.
func (b both) do(t testing.TB, what string, c call) api.Errno {
	t.Helper()
	asked := append(b.indices(), c.index)
	ahead := tellVault(b.vault, asked)
	got, wanted := c.inVault(b.vault), c.inWords(b.said)
	if got != wanted {
		t.Errorf("%s, %v: %d, not %d", what, c, int(got), int(wanted))
	}
	b.wantTold(t, fmt.Sprint(what, ", behind ", c))
	if got != 0 {
		if text := tellVault(b.vault, asked).differ(ahead, asked); text != "" {
			t.Errorf("%s: %v was refused, and yet: %s", what, c, text)
		}
	}
	return got
}

// want makes a call that must be answered just so.
func (b both) want(t testing.TB, what string, c call, wanted int) {
	t.Helper()
	if got := b.do(t, what, c); int(got) != wanted {
		t.Errorf("%s, %v: %d, not %d", what, c, int(got), wanted)
	}
}

// given is a vault behind some calls that are all done.
func given(t testing.TB, calls ...call) both {
	t.Helper()
	b := newBoth()
	for _, c := range calls {
		b.want(t, "ahead", c, 0)
	}
	return b
}

func wantHeld(t testing.TB, v *Vault, token int, wanted api.Wide) {
	t.Helper()
	if got := v.Held(token); got != wanted {
		t.Errorf("Held(%d): %v, not %v", token, got, wanted)
	}
}

func wantListed(t testing.TB, v *Vault, token int, listed, stopped bool) {
	t.Helper()
	if a, b := v.Listed(token); a != listed || b != stopped {
		t.Errorf("Listed(%d): %v, %v, not %v, %v", token, a, b, listed, stopped)
	}
}

func wantPaid(t testing.TB, v *Vault, index int, wanted bool) {
	t.Helper()
	if got := v.Paid(index); got != wanted {
		t.Errorf("Paid(%d): %v", index, got)
	}
}

func wantLocked(t testing.TB, v *Vault, wanted api.Wide) {
	t.Helper()
	if got := v.Locked(); got != wanted {
		t.Errorf("Locked: %v, not %v", got, wanted)
	}
}

func TestErrorsNumbers(t *testing.T) {
	for e, n := range map[api.Errno]int{
		api.OK: 0, api.ErrArg: 1,
		api.ErrEscrowToken: 140, api.ErrEscrowNone: 141, api.ErrEscrowThere: 142, api.ErrEscrowStop: 143, api.ErrEscrowZero: 144,
		api.ErrEscrowOver: 145, api.ErrEscrowFunds: 146, api.ErrEscrowPaid: 147, api.ErrEscrowIndex: 148, api.ErrEscrowBond: 149,
	} {
		if int(e) != n {
			t.Errorf("an error has the number %d, not %d", int(e), n)
		}
	}
	if api.MaxTokens != 64 || api.MaxCount != full {
		t.Errorf("MaxTokens is %d, MaxCount is %d", api.MaxTokens, api.MaxCount)
	}
}

func TestR1_Nil(t *testing.T) {
	var v *Vault
	for _, name := range names() {
		for _, n := range []int{-1, 0, 64, full} { // ahead of all else
			c := call{name: name, index: n, token: n, amount: of(1)}
			if got := c.inVault(v); got != api.ErrArg {
				t.Errorf("%v of a nil vault: %d", c, int(got))
			}
		}
	}
	asked := edgeIndices()
	if text := tellVault(v, asked).differ(tellWords(newSaid(), asked), asked); text != "" {
		t.Errorf("a nil vault: %s", text)
	}
	if v.Copy() != nil {
		t.Error("a nil vault has a copy")
	}
}

// The chapter's examples, row by row.
func TestExamples(t *testing.T) {
	b := newBoth()
	v := b.vault
	b.want(t, "row 1", deposit(3, of(1)), 141)
	b.want(t, "row 1", stop(3, true), 141)
	b.want(t, "row 1", pay(0, 3, of(0)), 141)

	b.want(t, "row 2", list(64), 140)
	b.want(t, "row 2", list(-1), 140)
	b.want(t, "row 2", list(3), 0)
	b.want(t, "row 2", list(3), 142)

	wantListed(t, v, 3, true, false)
	wantListed(t, v, 4, false, false)
	wantListed(t, v, 64, false, false)

	b.want(t, "row 4", stop(3, false), 143)
	b.want(t, "row 4", stop(3, true), 0)
	b.want(t, "row 4", stop(3, true), 143)

	b.want(t, "row 5", deposit(3, of(0)), 143)
	b.want(t, "row 5", stop(3, false), 0)
	b.want(t, "row 5", deposit(3, of(0)), 144)

	b.want(t, "row 6", deposit(3, greatest()), 0)
	b.want(t, "row 6", deposit(3, of(1)), 145)
	wantHeld(t, v, 3, greatest())

	b.want(t, "row 7", pay(7, 3, of(5)), 0)
	b.want(t, "row 7", pay(7, 3, of(1)), 147)
	wantPaid(t, v, 7, true)
	wantPaid(t, v, 8, false)

	b.want(t, "row 8", pay(8, 3, greatest()), 146)
	wantHeld(t, v, 3, less(5))
	wantPaid(t, v, 8, false)

	b.want(t, "row 9", pay(-1, 99, of(1)), 148)
	b.want(t, "row 9", pay(full, 3, of(1)), 148)
	b.want(t, "row 9", pay(full-1, 3, of(0)), 0)

	b.want(t, "row 10", lock(greatest()), 0)
	b.want(t, "row 10", lock(of(1)), 145)
	b.want(t, "row 10", free(of(2)), 0)
	wantLocked(t, v, less(2))

	b.want(t, "row 11", free(greatest()), 149)

	b.want(t, "row 12", stop(3, true), 0)
	b.want(t, "row 12", pay(9, 3, of(1)), 0)
}

func TestP14_1_New(t *testing.T) {
	v := New()
	for _, token := range askedTokens() {
		wantListed(t, v, token, false, false)
		wantHeld(t, v, token, of(0))
	}
	for _, index := range edgeIndices() {
		wantPaid(t, v, index, false)
	}
	wantLocked(t, v, of(0))
	// Two new ones have nothing to do with each other.
	w := newBoth()
	given(t, list(3), deposit(3, of(5)), pay(7, 3, of(1)), lock(of(4)))
	w.wantTold(t, "a vault beside another one")
}

// stuffed has everything that a copy has to have.
func stuffed(t testing.TB) both {
	return given(t, list(0), list(3), list(63), deposit(0, of(9)), deposit(3, greatest()), stop(3, true), pay(0, 0, of(2)), pay(7, 3, of(5)), pay(full-1, 63, of(0)), lock(of(4)))
}

// turning are calls that turn something in such a vault, one behind the other or each by itself.
func turning() []call {
	return []call{list(4), deposit(0, of(1)), stop(0, true), stop(3, false), deposit(63, of(1)), pay(1, 0, of(1)), pay(8, 3, of(0)), pay(64, 63, of(0)), pay(full-2, 3, less(5)), lock(of(1)), free(of(4))}
}

func TestP14_1_CopyHasTheSame(t *testing.T) {
	stuffed(t).copied().wantTold(t, "a copy")
	newBoth().copied().wantTold(t, "a copy of a new one")
	given(t, list(5)).copied().wantTold(t, "a copy of a vault with a token alone")
	given(t, lock(of(5))).copied().wantTold(t, "a copy of a vault with a bond alone")
}

// Every call on the one and on the other behind a copy, the refused ones too, is not seen in the other.
func TestP14_1_WhatIsDoneToOneIsNotSeenInTheOther(t *testing.T) {
	for _, c := range turning() {
		one := stuffed(t)
		two := one.copied()
		one.want(t, "the first", c, 0)
		two.wantTold(t, fmt.Sprint("the copy, behind ", c, " in the first"))
		two.want(t, "the copy", c, 0)

		one = stuffed(t)
		two = one.copied()
		two.want(t, "the copy", c, 0)
		one.wantTold(t, fmt.Sprint("the first, behind ", c, " in the copy"))
		one.want(t, "the first", c, 0)
	}
	// A copy of an empty one shares nothing either, whichever comes first.
	for _, first := range []int{0, 1} {
		one := newBoth()
		pair := []both{one, one.copied()}
		for _, c := range []call{list(0), deposit(0, of(3)), pay(5, 0, of(1)), lock(of(2))} {
			pair[first].want(t, "one", c, 0)
			pair[1-first].wantTold(t, fmt.Sprint("the other, behind ", c))
		}
		for _, c := range []call{list(0), deposit(0, of(4)), pay(5, 0, of(2)), lock(of(7))} {
			pair[1-first].want(t, "the other", c, 0)
			pair[first].wantTold(t, fmt.Sprint("one, behind ", c))
		}
	}
}

func TestP14_1_CopiesOfCopies(t *testing.T) {
	vaults := []both{stuffed(t)}
	for i, c := range turning() {
		next := vaults[i].copied()
		next.want(t, fmt.Sprint("copy ", i+1), c, 0)
		vaults = append(vaults, next)
		for j, b := range vaults {
			b.wantTold(t, fmt.Sprint("vault ", j, " of ", len(vaults)))
		}
	}
	for i, b := range vaults { // and each goes on by itself
		b.want(t, "on", pay(1000+i, 63, of(0)), 0)
		b.want(t, "on", list(10+i), 0)
	}
	for i, b := range vaults {
		b.wantTold(t, fmt.Sprint("at last, vault ", i))
	}
}

// outside are tokens that no vault has.
func outside() []int {
	return []int{math.MinInt, math.MinInt + 1, -1 << 32, -64, -1, 64, 65, 127, 128, 256, 1 << 32, math.MaxInt - 1, math.MaxInt}
}

func TestP14_2_TokensThatMayNotBe(t *testing.T) {
	for _, token := range outside() {
		b := stuffed(t)
		b.want(t, "outside", list(token), 140)
		b.want(t, "outside", stop(token, true), 140)
		b.want(t, "outside", stop(token, false), 140)
		b.want(t, "outside", deposit(token, of(0)), 140)
		b.want(t, "outside", deposit(token, of(1)), 140)
		b.want(t, "outside", deposit(token, greatest()), 140)
		b.want(t, "outside", pay(5, token, of(0)), 140)
		b.want(t, "outside, and paid", pay(7, token, of(0)), 140)
		b.want(t, "outside, and too much", pay(5, token, greatest()), 140)
		wantListed(t, b.vault, token, false, false)
		wantHeld(t, b.vault, token, of(0))
	}
}

// Every token that may be is listed, stopped, let go, deposited and paid, and none is seen in another.
func TestP14_2_EveryToken(t *testing.T) {
	b := newBoth()
	for token := range 64 {
		for _, c := range []call{stop(token, true), stop(token, false), deposit(token, of(0)), deposit(token, of(1)), pay(token, token, of(0)), pay(token, token, of(1))} {
			b.want(t, "not listed", c, 141)
		}
		b.want(t, "first", list(token), 0)
		b.want(t, "twice", list(token), 142)
		b.want(t, "lists", deposit(token, of(uint64(token+1))), 0)
	}
	for token := range 64 {
		b.want(t, "stop", stop(token, true), 0)
		b.want(t, "stopped", stop(token, true), 143)
		b.want(t, "stopped", deposit(token, of(1)), 143)
		b.want(t, "stopped", list(token), 142)
		b.want(t, "stopped", pay(token, token, of(1)), 0)
		b.want(t, "let go", stop(token, false), 0)
		b.want(t, "not stopped", stop(token, false), 143)
		wantHeld(t, b.vault, token, of(uint64(token)))
	}
}

func TestP14_2_ListAgainTurnsNothing(t *testing.T) {
	b := given(t, list(3), deposit(3, of(5)), stop(3, true))
	b.want(t, "stopped, with some held", list(3), 142)
	wantListed(t, b.vault, 3, true, true)
	wantHeld(t, b.vault, 3, of(5))
	b.want(t, "let go", stop(3, false), 0)
	b.want(t, "not stopped", list(3), 142)
	wantListed(t, b.vault, 3, true, false)
	wantHeld(t, b.vault, 3, of(5))
	b.want(t, "all of it", pay(0, 3, of(5)), 0)
	b.want(t, "nothing held", list(3), 142)
}

func TestP14_2_DepositsUpToTheGreatest(t *testing.T) {
	high := api.Wide{0, 0, 0, 1 << 63} // 2^255
	for _, row := range []struct {
		parts []api.Wide
		last  api.Wide // one more
	}{
		{[]api.Wide{greatest()}, of(1)},
		{[]api.Wide{of(1), less(1)}, of(1)},
		{[]api.Wide{less(1), of(1)}, greatest()},
		{[]api.Wide{high, {all, all, all, 1<<63 - 1}}, of(1)},
		{[]api.Wide{high}, high},
		{[]api.Wide{of(1)}, greatest()},
		{[]api.Wide{of(all), {1, all, all, all - 1}, {all, all, all, 0}}, of(1)},
	} {
		b := given(t, list(0), list(63))
		sum := of(0)
		for _, part := range row.parts {
			b.want(t, "up to there", deposit(63, part), 0)
			sum = wideOf(bigOf(sum).Add(bigOf(sum), bigOf(part)))
			wantHeld(t, b.vault, 63, sum)
		}
		b.want(t, "one more", deposit(63, row.last), 145)
		wantHeld(t, b.vault, 63, sum)
		b.want(t, "nought", deposit(63, of(0)), 144)
		b.want(t, "of another one", deposit(0, row.last), 0)
		wantHeld(t, b.vault, 0, row.last)
	}
}

func TestP14_2_ErrorsInTheirOrder(t *testing.T) {
	b := given(t, list(3), deposit(3, greatest()), pay(7, 3, of(1)), list(5), deposit(5, of(1)), stop(5, true))
	for _, row := range []struct {
		what string
		c    call
		e    int
	}{
		{"stopped, nought", deposit(5, of(0)), 143},
		{"stopped, too much", deposit(5, greatest()), 143},
		{"not listed, nought", deposit(4, of(0)), 141},
		{"not listed, too much", deposit(4, greatest()), 141},
		{"nought", deposit(3, of(0)), 144},
		{"too much", deposit(3, of(2)), 145},
		{"index, token, too much", pay(-1, 64, greatest()), 148},
		{"index, token", pay(full, -1, of(0)), 148},
		{"index, not listed", pay(full, 4, of(0)), 148},
		{"index alone", pay(-1, 3, of(0)), 148},
		{"token, paid, too much", pay(7, 64, greatest()), 140},
		{"token, paid", pay(7, -1, of(0)), 140},
		{"not listed, paid, too much", pay(7, 4, greatest()), 141},
		{"not listed, paid", pay(7, 4, of(0)), 141},
		{"not listed, too much", pay(8, 4, of(1)), 141},
		{"paid, too much", pay(7, 3, greatest()), 147},
		{"paid", pay(7, 3, of(0)), 147},
		{"paid, of another one, too much", pay(7, 5, of(2)), 147},
		{"paid, of another one", pay(7, 5, of(1)), 147},
		{"too much", pay(8, 3, greatest()), 146},
		{"too much of a stopped one", pay(8, 5, of(2)), 146},
	} {
		b.want(t, row.what, row.c, row.e)
	}
}

func TestP14_2_Payments(t *testing.T) {
	b := given(t, list(3), deposit(3, of(10)))
	b.want(t, "nought", pay(0, 3, of(0)), 0)
	wantPaid(t, b.vault, 0, true)
	wantHeld(t, b.vault, 3, of(10))
	b.want(t, "one more than there is", pay(1, 3, of(11)), 146)
	b.want(t, "all that is far too much", pay(1, 3, greatest()), 146)
	b.want(t, "too much in a higher part", pay(1, 3, api.Wide{0, 1}), 146)
	wantPaid(t, b.vault, 1, false)
	b.want(t, "all of it", pay(1, 3, of(10)), 0)
	wantHeld(t, b.vault, 3, of(0))
	b.want(t, "one of nothing", pay(2, 3, of(1)), 146)
	b.want(t, "nought of nothing", pay(2, 3, of(0)), 0)
	b.want(t, "again", deposit(3, greatest()), 0)
	b.want(t, "the greatest", pay(3, 3, greatest()), 0)
	wantListed(t, b.vault, 3, true, false) // a token of which nothing is held is listed still
	b.want(t, "a token of which nothing was ever held", list(4), 0)
	b.want(t, "nought of it", pay(4, 4, of(0)), 0)
	b.want(t, "one of it", pay(5, 4, of(1)), 146)
}

func TestP14_2_PaymentsOfAStoppedToken(t *testing.T) {
	b := given(t, list(3), deposit(3, of(10)), stop(3, true))
	b.want(t, "stopped", pay(0, 3, of(4)), 0)
	b.want(t, "stopped, nought", pay(1, 3, of(0)), 0)
	b.want(t, "stopped, all", pay(2, 3, of(6)), 0)
	wantListed(t, b.vault, 3, true, true)
	b.want(t, "stopped, and empty", deposit(3, of(1)), 143)
}

func TestP14_2_IndicesThatMayNotBe(t *testing.T) {
	b := given(t, list(3), deposit(3, of(10)))
	for _, index := range edgeIndices() {
		e := 0
		if index < 0 || index >= full {
			e = 148
		}
		b.want(t, "at the edge", pay(index, 3, of(0)), e)
		wantPaid(t, b.vault, index, e == 0)
	}
}

func TestP14_2_AnIndexIsPaidWhateverItsTokenWas(t *testing.T) {
	b := given(t, list(3), list(4), deposit(3, of(10)), deposit(4, of(10)), pay(7, 3, of(1)))
	b.want(t, "the same", pay(7, 3, of(1)), 147)
	b.want(t, "nought", pay(7, 3, of(0)), 147)
	b.want(t, "another amount", pay(7, 3, of(2)), 147)
	b.want(t, "another token", pay(7, 4, of(1)), 147)
	wantHeld(t, b.vault, 3, of(9))
	wantHeld(t, b.vault, 4, of(10))
	b.want(t, "another index", pay(8, 4, of(1)), 0)
	b.want(t, "and back", pay(8, 3, of(1)), 147)
}

func TestP14_2_ARefusedPaymentLeavesItsIndexUnpaid(t *testing.T) {
	b := given(t, list(3), deposit(3, of(10)))
	for _, row := range []struct {
		c call
		e int
	}{{pay(7, 64, of(1)), 140}, {pay(7, 4, of(1)), 141}, {pay(7, 3, of(11)), 146}} {
		b.want(t, "refused", row.c, row.e)
		wantPaid(t, b.vault, 7, false)
	}
	b.want(t, "what may be", pay(7, 3, of(10)), 0)
	wantPaid(t, b.vault, 7, true)
}

func TestP14_3_NumbersThatMayNotBe(t *testing.T) {
	b := stuffed(t)
	for token := range 64 { // else another number could stand for one that is not there
		if listed, _ := b.vault.Listed(token); !listed {
			b.want(t, "all of them", list(token), 0)
		}
	}
	for index := range 200 {
		if !b.vault.Paid(index) {
			b.want(t, "many of them", pay(index, 63, of(0)), 0)
		}
	}
	for _, token := range outside() {
		wantListed(t, b.vault, token, false, false)
		wantHeld(t, b.vault, token, of(0))
	}
	for _, index := range []int{math.MinInt, -full, -200, -64, -63, -2, -1, 200, 255, 256, full, full + 1, 1 << 46, math.MaxInt - 1, math.MaxInt} {
		wantPaid(t, b.vault, index, false)
	}
}

func TestP14_3_WhatIsTold(t *testing.T) {
	b := given(t, list(3), list(4), stop(4, true), deposit(3, of(6)))
	wantListed(t, b.vault, 3, true, false)
	wantListed(t, b.vault, 4, true, true)
	wantListed(t, b.vault, 5, false, false)
	wantHeld(t, b.vault, 3, of(6))
	wantHeld(t, b.vault, 4, of(0))
	wantHeld(t, b.vault, 5, of(0))
	for range 3 { // asking turns nothing
		b.wantTold(t, "asked again")
	}
}

func TestP14_4_Bonds(t *testing.T) {
	b := newBoth()
	b.want(t, "one of nothing", free(of(1)), 149)
	b.want(t, "nought of nothing", free(of(0)), 0)
	b.want(t, "nought", lock(of(0)), 0)
	wantLocked(t, b.vault, of(0))
	b.want(t, "some", lock(of(5)), 0)
	b.want(t, "too much together", lock(less(4)), 145)
	b.want(t, "the greatest beside some", lock(greatest()), 145)
	wantLocked(t, b.vault, of(5))
	b.want(t, "up to the greatest", lock(less(5)), 0)
	wantLocked(t, b.vault, greatest())
	b.want(t, "one more", lock(of(1)), 145)
	b.want(t, "nought more", lock(of(0)), 0)
	b.want(t, "some back", free(of(2)), 0)
	wantLocked(t, b.vault, less(2))
	b.want(t, "one more than there is", free(less(1)), 149)
	b.want(t, "the greatest", free(greatest()), 149)
	b.want(t, "all of it", free(less(2)), 0)
	wantLocked(t, b.vault, of(0))
	b.want(t, "and more", free(of(1)), 149)
	b.want(t, "the greatest at one stroke", lock(greatest()), 0)
	b.want(t, "and back", free(greatest()), 0)
}

// What is locked and what is held have nothing to do with each other.
func TestP14_4_BondsAndTokens(t *testing.T) {
	b := given(t, list(0), list(3), deposit(0, greatest()), deposit(3, of(9)))
	b.want(t, "nothing is locked, all is held", free(of(1)), 149)
	b.want(t, "all", lock(greatest()), 0)
	wantHeld(t, b.vault, 0, greatest())
	wantHeld(t, b.vault, 3, of(9))
	b.want(t, "one more of it", deposit(3, of(1)), 0)
	b.want(t, "more than is held, for so much is locked", pay(1, 3, of(11)), 146)
	b.want(t, "all that is held", pay(1, 0, greatest()), 0)
	wantLocked(t, b.vault, greatest())
	b.want(t, "back", free(greatest()), 0)
	wantHeld(t, b.vault, 0, of(0))
	wantHeld(t, b.vault, 3, of(10))
	b.want(t, "nothing is locked", pay(2, 3, of(10)), 0)
}

// The set itself, with numbers of other kinds and below nought too.
func TestSet(t *testing.T) {
	numbers := []int64{math.MinInt64, -65, -64, -63, -1, 0, 1, 63, 64, 65, 1 << 40, math.MaxInt64}
	var s set[int64]
	for i, n := range numbers {
		c := s.copied()
		s.put(n)
		s.put(n)
		for j, m := range numbers {
			if s.has(m) != (j <= i) || c.has(m) != (j < i) {
				t.Errorf("behind put(%d): has(%d) is %v, in the copy %v", n, m, s.has(m), c.has(m))
			}
		}
	}
	type big uint64
	var u set[big]
	u.put(math.MaxUint64)
	if !u.has(math.MaxUint64) || u.has(0) || u.has(math.MaxUint64-1) || u.has(math.MaxUint64-64) || u.has(math.MaxUint64>>6) {
		t.Error("the greatest number there is")
	}
}
