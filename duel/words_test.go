package duel

import (
	"fmt"
	"math"
	"math/big"
	"slices"

	"causeway/api"
	"causeway/witness"
)

// The second reckoning: a duel is what it was opened with, and the row of all calls that were done; how it stands is told from these anew whenever it is asked. Times and counts are reckoned by the library's great numbers. Errors, states and limits are written out, not taken from api. What a witness shows is layer 13's to tell.

// opening is what Open is handed.
type opening struct {
	number               int
	low, high            api.Commit
	challenger, defender api.Address
	turn, now            int
}

func (o opening) open() (*Duel, api.Errno) {
	return Open(o.number, o.low, o.high, o.challenger, o.defender, o.turn, o.now)
}

func (o opening) String() string {
	return fmt.Sprintf("Open(%d, count %d, count %d, %x, %x, %d, %d)", o.number, o.low.Count, o.high.Count, o.challenger[:2], o.defender[:2], o.turn, o.now)
}

// call is a call that can be refused and turns something if it is not.
type call struct {
	name    string
	by      api.Address
	middle  api.Commit
	upper   bool
	witness api.Witness
	entries []api.Entry
	now     int
}

func (c call) String() string {
	switch c.name {
	case "Split":
		return fmt.Sprintf("Split(%x, count %d %x, %d)", c.by[:2], c.middle.Count, c.middle.State[:2], c.now)
	case "Pick":
		return fmt.Sprintf("Pick(%x, %v, %d)", c.by[:2], c.upper, c.now)
	case "Prove":
		return fmt.Sprintf("Prove(%x, %d pairs, %d, %d entries)", c.by[:2], len(c.witness.Pairs), c.now, len(c.entries))
	}
	return fmt.Sprintf("%s(%d)", c.name, c.now)
}

func (c call) inDuel(d *Duel) api.Errno {
	switch c.name {
	case "Split":
		return d.Split(c.by, c.middle, c.now)
	case "Pick":
		return d.Pick(c.by, c.upper, c.now)
	case "Prove":
		return d.Prove(c.by, c.witness, c.now, c.entries...)
	}
	return d.Expire(c.now)
}

// said is what a duel is by the words.
type said struct {
	opening
	done []call
}

// within tells whether a number is one of those from one to another.
func within(n, from, to *big.Int) bool { return n.Cmp(from) >= 0 && n.Cmp(to) <= 0 }

func great(n int) *big.Int { return big.NewInt(int64(n)) }

func power(n uint) *big.Int { return new(big.Int).Lsh(big.NewInt(1), n) }

func sayTime(now int) bool { return within(great(now), great(0), power(62)) }

func sayOpen(o opening) (*said, api.Errno) {
	low, high := great(o.low.Count), great(o.high.Count)
	if !within(great(o.number), great(1), power(40)) {
		return nil, 1
	}
	if !within(great(o.turn), great(1), power(40)) {
		return nil, 1
	}
	if !within(low, great(0), power(40)) || !within(high, great(0), power(40)) || !within(new(big.Int).Sub(high, low), great(2), great(1024)) {
		return nil, 170
	}
	if slices.Equal(o.challenger[:], o.defender[:]) {
		return nil, 172
	}
	if !sayTime(o.now) {
		return nil, 177
	}
	return &said{opening: o}, 0
}

func (s *said) copied() *said { return &said{s.opening, slices.Clone(s.done)} }

// time is that of the last call that was done.
func (s *said) time() int {
	if len(s.done) == 0 {
		return s.now
	}
	return s.done[len(s.done)-1].now
}

// until is the last moment of the turn that is open.
func (s *said) until() int {
	end := new(big.Int).Add(great(s.time()), great(s.turn))
	if end.Cmp(power(62)) > 0 {
		end = power(62)
	}
	return int(end.Int64())
}

// view goes through all that was done.
func (s *said) view() api.Duel {
	v := api.Duel{Number: s.number, Challenger: s.challenger, Defender: s.defender, State: 1, Low: s.low, High: s.high}
	for _, c := range s.done {
		switch c.name {
		case "Split":
			v.State, v.Middle = 2, c.middle
		case "Pick":
			low, high := v.Low, v.Middle
			if c.upper {
				low, high = v.Middle, v.High
			}
			v.State, v.Low, v.Middle, v.High = 1, low, api.Commit{}, high
			if high.Count-low.Count == 1 {
				v.State = 3
			}
			v.Rounds++
		case "Prove":
			v.State = 4
		default:
			v.State, v.Middle = map[int]int{1: 4, 2: 5, 3: 5}[v.State], api.Commit{}
		}
	}
	if v.State < 4 {
		v.Until = s.until()
	}
	return v
}

// half is the count that is to be told in a Split.
func half(v api.Duel) int {
	sum := new(big.Int).Add(great(v.Low.Count), great(v.High.Count)) // low + (high - low) / 2, for no count is below 0
	return int(sum.Rsh(sum, 1).Int64())
}

// own is what a move itself is refused for, whoever makes it and whenever.
func own(v api.Duel, c call) api.Errno {
	switch {
	case c.name == "Split" && c.middle.Count != half(v):
		return 175
	case c.name == "Prove":
		if len(c.entries) != 1 {
			return 1
		}
		shown, e := witness.Replay(v.Low, c.witness, c.entries[0])
		if e != 0 {
			return e
		}
		if shown.Count == v.High.Count && shown.State == v.High.State && shown.Outbox == v.High.Outbox && shown.Leaves == v.High.Leaves {
			return 176
		}
	}
	return 0
}

// why is why a call is refused, if it is.
func (s *said) why(c call) api.Errno {
	v := s.view()
	if !sayTime(c.now) || c.now < s.time() {
		return 177
	}
	state := map[string]int{"Split": 1, "Pick": 2, "Prove": 3, "Expire": v.State}[c.name]
	if v.State != state || v.State > 3 {
		return 171
	}
	over := c.now > v.Until
	if c.name == "Expire" {
		if !over {
			return 174
		}
		return 0
	}
	if who := map[int]api.Address{1: v.Defender, 2: v.Challenger, 3: v.Challenger}[state]; c.by != who {
		return 172
	}
	if over {
		return 173
	}
	return own(v, c)
}

func (s *said) do(c call) api.Errno {
	e := s.why(c)
	if e == 0 {
		s.done = append(s.done, c)
	}
	return e
}

// probes are calls that show what View does not tell: the duel's time, its turn, and how it ends if nobody moves.
func (s *said) probes() []call {
	v, last := s.view(), s.time()
	var l []call
	for _, now := range []int{last - 1, last, v.Until, v.Until + 1, 1 << 62, 1<<62 + 1, math.MinInt, math.MaxInt} {
		l = append(l, call{name: "Expire", now: now}, call{name: "Split", by: v.Defender, middle: api.Commit{Count: half(v)}, now: now}, call{name: "Pick", by: v.Challenger, upper: true, now: now}, call{name: "Pick", by: v.Challenger, now: now})
	}
	return append(l, call{name: "Prove", by: v.Challenger, now: last}, call{name: "Prove", by: v.Challenger, now: last, entries: make([]api.Entry, 1)})
}

// differ tells where a duel stands otherwise than by the words; nothing, if it does not. What no call tells is tried on copies.
func (s *said) differ(d *Duel) string {
	if got, wanted := d.View(), s.view(); got != wanted {
		return fmt.Sprintf("View is %+v, not %+v", got, wanted)
	}
	for _, c := range s.probes() {
		twin, words := d.Copy(), s.copied()
		if got, wanted := c.inDuel(twin), words.do(c); got != wanted || twin.View() != words.view() {
			return fmt.Sprintf("%v of a copy is %d, %+v, not %d, %+v", c, int(got), twin.View(), int(wanted), words.view())
		}
	}
	return ""
}
