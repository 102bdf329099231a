package world

import "causeway/api"

// bridgeForm is the first line's.
const bridgeForm = "bridge owner OWNER admin ADMIN window WINDOW turn TURN bond BOND"

// Where a line may stand.
const (
	outside  = iota // of all blocks
	opens           // outside, and a block begins
	closes          // in a block, which ends
	anywhere        // in a block, too
)

// form is how a line of a kind is said, where it may stand, and what it does.
type form struct {
	says  string
	place int
	does  func(*play, line)
}

func (f form) mayStand(inside bool) bool {
	return f.place == anywhere || inside == (f.place == closes)
}

// leads tells whether a block is open behind a line that stands inside of one, or outside.
func (f form) leads(inside bool) bool {
	return f.place == opens || f.place == anywhere && inside
}

// operation is the form of a line that asks for one.
func operation(says string, asks asking) form {
	return form{says: says, place: anywhere, does: func(p *play, l line) { p.operate(l, asks) }}
}

// forms are those of all lines but the first one, by the words of what they do.
func forms() map[string]form {
	return map[string]form{
		"time":      {"time N", outside, (*play).turnTime},
		"begin":     {"begin", opens, (*play).begin},
		"end":       {"end", closes, (*play).end},
		"list":      operation("WHO list T", plain(api.OpList)),
		"stop":      operation("WHO stop T", stopping(1)),
		"open":      operation("WHO open T", stopping(0)),
		"deposit":   operation("WHO deposit T A for TO gas GAS", plain(api.OpDeposit)),
		"send":      operation("WHO send LETTER", (*play).send),
		"post":      operation("WHO post N TRUTH", (*play).post),
		"confirm":   operation("WHO confirm", plain(api.OpConfirm)),
		"challenge": operation("WHO challenge N", (*play).challenge),
		"duel":      operation("WHO duel N", plain(api.OpDuel)),
		"split":     operation("WHO split N against TO TRUTH", (*play).split),
		"pick":      operation("WHO pick N HALF", plain(api.OpPick)),
		"prove":     operation("WHO prove N", (*play).prove),
		"expire":    operation("WHO expire N against TO", plain(api.OpExpire)),
		"claim":     operation("WHO claim N", (*play).claim),
		"follow":    {"follow N", outside, (*play).follow},
		"cut":       {"cut N", outside, (*play).cut},
		"assert":    {"WHO assert", outside, (*play).assert},
		"watch":     {"WHO watch N", outside, (*play).watch},
		"defend":    {"WHO defend", outside, (*play).defend},
		"look":      {"look N", outside, (*play).look},
		"held":      {"held T", outside, (*play).held},
		"supply":    {"supply T", outside, (*play).supply},
		"balance":   {"balance T WHO", outside, (*play).balance},
		"ticket":    {"ticket N", outside, (*play).ticket},
		"receipt":   {"receipt N", outside, (*play).receipt},
		"count":     {"count", outside, (*play).count},
		"top":       {"top", outside, (*play).top},
		"confirmed": {"confirmed", outside, (*play).confirmed},
		"pending":   {"pending", outside, (*play).pending},
		"duels":     {"duels", outside, (*play).duels},
	}
}
