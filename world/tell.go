package world

import (
	"strings"

	"causeway/api"
	"causeway/wide"
)

// What stands ahead of lines that belong to another one, and to one of those.
const (
	under  = "  "
	deeper = "    "
)

// The words of what has numbers in the layers below.
var (
	guardWords = [...]string{ // of the operations that the guard answers
		api.OpPost: "post", api.OpChallenge: "challenge", api.OpDuel: "duel", api.OpSplit: "split", api.OpPick: "pick", api.OpProve: "prove", api.OpExpire: "expire",
	}
	payWords  = [...]string{api.PayLeaf: "leaf", api.PayBond: "bond", api.PayReward: "reward"}
	duelWords = [...]string{api.DuelSplit: "split", api.DuelPick: "pick", api.DuelProve: "prove"}
	leafWords = [...]string{api.LeafUnknown: "unknown", api.LeafBurned: "burned", api.LeafAsserted: "asserted", api.LeafConfirmed: "confirmed", api.LeafPaid: "paid"}
)

// ahead is what stands ahead of a line's own line in the transcript.
func (l line) ahead() string {
	return number(l.number) + " "
}

// tell lays a line of the transcript.
func (p *play) tell(ahead string, words ...string) {
	p.transcript.WriteString(ahead)
	p.transcript.WriteString(strings.Join(words, " "))
	p.transcript.WriteByte('\n')
}

// answer tells what came of a line that is no operation: its word and some others, or that it is refused.
func (p *play) answer(l line, e api.Errno, words ...string) {
	if e != api.OK {
		words = refusal(e)
	}
	p.tell(l.ahead()+l.word+" ", words...)
}

func refusal(e api.Errno) []string {
	return []string{"refused", number(int(e))}
}

// tellResult tells what came of an operation, and below what is paid for it.
func (p *play) tellResult(ahead, below, word string, r api.Result) {
	words := []string{"ok"}
	switch {
	case r.Code != api.OK:
		words = refusal(r.Code)
	case isNumbered(word):
		words = append(words, number(r.Number))
	}
	p.tell(ahead+word+" ", words...)
	for _, pay := range r.Pays {
		p.tell(below, "pay", payWords[pay.Why], number(pay.Token), wide.Text(pay.Amount), who(pay.To), number(pay.Index))
	}
}

// isNumbered tells whether the number of what an operation made is told: an entry's or an assertion's.
func isNumbered(word string) bool {
	switch word {
	case "deposit", "send", "post":
		return true
	}
	return false
}
