package contract

import (
	"bytes"
	"crypto/sha256"
	"fmt"
	"math"
	"math/big"
	"slices"

	"causeway/api"
	"causeway/exec"
	"causeway/ladder"
	"causeway/letter"
	"causeway/outbox"
	"causeway/witness"
)

// The second reckoning: a contract is its config and the row of all operations that were done, with what came of each. What is held, locked and paid, and what stands in the inbox, is summed up from that row anew whenever it is asked; of assertions all that were ever posted are kept, each with what became of it; of duels those that are open, in the order in which they were opened. Sums are made by the library's great numbers. Errors, kinds and limits are written out, not taken from api. Bytes, witnesses and paths are the layers' below to read.

// deed is an operation that was done.
type deed struct {
	now    int
	op     api.Op
	result api.Result
}

// What became of an assertion.
const (
	isPending = iota
	isConfirmed
	isFallen
)

// record is an assertion that was posted at some time.
type record struct {
	api.Pending
	fate int
}

// said is what a contract is by the words.
type said struct {
	config api.Config
	first  api.Commit
	done   []deed
	all    []record // number n is all[n-1]
	open   []api.Duel
}

func power(n uint) *big.Int { return new(big.Int).Lsh(big.NewInt(1), n) }

func great(a api.Wide) *big.Int {
	sum := new(big.Int)
	for i, part := range a {
		sum.Add(sum, new(big.Int).Lsh(new(big.Int).SetUint64(part), uint(64*i)))
	}
	return sum
}

func small(n *big.Int) api.Wide {
	var a api.Wide
	for i := range a {
		a[i] = new(big.Int).Rsh(n, uint(64*i)).Uint64()
	}
	return a
}

func sayNew(c api.Config) (*said, api.Errno) {
	for _, seconds := range []int{c.Window, c.Turn} {
		if seconds < 1 || seconds > 1099511627776 {
			return nil, 180
		}
	}
	if great(c.Bond).Cmp(power(192)) >= 0 {
		return nil, 180
	}
	first, e := exec.Commit(exec.Genesis(c.Admin))
	return &said{config: c, first: first}, e
}

func (s *said) copied() *said {
	return &said{s.config, s.first, slices.Clone(s.done), slices.Clone(s.all), slices.Clone(s.open)}
}

func (s *said) now() int {
	if len(s.done) == 0 {
		return 0
	}
	return s.done[len(s.done)-1].now
}

// entries are those of all deposits and letters that were done.
func (s *said) entries() []api.Entry {
	var l []api.Entry
	for _, d := range s.done {
		switch d.op.Kind {
		case 3:
			l = append(l, api.Entry{Kind: 1, Sender: d.op.By, Time: d.now, Token: d.op.Token, To: d.op.To, Amount: d.op.Amount, Gas: d.op.Gas})
		case 4:
			l = append(l, api.Entry{Kind: 2, Sender: d.op.By, Time: d.now, Body: d.op.Body})
		}
	}
	return l
}

func hashed(text []byte) api.Digest { return sha256.Sum256(text) }

func (s *said) link() api.Digest {
	var link api.Digest
	for _, e := range s.entries() {
		text, _ := letter.EntryBytes(e)
		link = hashed(append(link[:], text...))
	}
	return link
}

// listed tells how a token stands: 0 not listed, 1 listed, 2 stopped.
func (s *said) listed(token int) int {
	how := 0
	for _, d := range s.done {
		switch {
		case d.op.Token != token:
		case d.op.Kind == 1:
			how = 1
		case d.op.Kind == 2:
			how = 1 + d.op.Index
		}
	}
	return how
}

// held is what was deposited less what was paid, of each token.
func (s *said) held() map[int]*big.Int {
	sums := map[int]*big.Int{}
	for i := range 64 {
		sums[i] = new(big.Int)
	}
	for _, d := range s.done {
		if d.op.Kind == 3 {
			sums[d.op.Token].Add(sums[d.op.Token], great(d.op.Amount))
		}
		for _, p := range d.result.Pays {
			if p.Why == 1 {
				sums[p.Token].Sub(sums[p.Token], great(p.Amount))
			}
		}
	}
	return sums
}

func (s *said) paid() map[int]int {
	times := map[int]int{}
	for _, d := range s.done {
		for _, p := range d.result.Pays {
			if p.Why == 1 {
				times[p.Index]++
			}
		}
	}
	return times
}

// bonds tells how many are locked: those that came in less those that went out.
func (s *said) bonds() int {
	n := 0
	for _, d := range s.done {
		if d.op.Kind == 5 || d.op.Kind == 8 {
			n++
		}
		for _, p := range d.result.Pays {
			if p.Why != 1 {
				n--
			}
		}
	}
	return n
}

func (s *said) locked() api.Wide {
	return small(new(big.Int).Mul(great(s.config.Bond), big.NewInt(int64(s.bonds()))))
}

func (s *said) of(fate int) []api.Pending {
	var l []api.Pending
	for _, r := range s.all {
		if r.fate == fate {
			r.Duels = len(s.over(r.Number))
			l = append(l, r.Pending)
		}
	}
	return l
}

func (s *said) confirmed() api.Commit {
	last := s.first
	for _, p := range s.of(isConfirmed) {
		last = p.Commit
	}
	return last
}

func (s *said) top() api.Commit {
	last := s.confirmed()
	for _, p := range s.of(isPending) {
		last = p.Commit
	}
	return last
}

// find tells a pending assertion, and what it goes on from.
func (s *said) find(number int) (api.Pending, api.Commit, bool) {
	ahead := s.confirmed()
	for _, p := range s.of(isPending) {
		if p.Number == number {
			return p, ahead, true
		}
		ahead = p.Commit
	}
	return api.Pending{}, api.Commit{}, false
}

// over are the open duels over an assertion, by rising challengers.
func (s *said) over(number int) []api.Duel {
	var l []api.Duel
	for _, d := range s.open {
		if d.Number == number {
			l = append(l, d)
		}
	}
	slices.SortFunc(l, func(a, b api.Duel) int { return bytes.Compare(a.Challenger[:], b.Challenger[:]) })
	return l
}

// duels are all open ones, by rising numbers.
func (s *said) duels() []api.Duel {
	var l []api.Duel
	for n := range s.all {
		l = append(l, s.over(n+1)...)
	}
	return l
}

func (s *said) duel(number int, who api.Address) (api.Duel, bool) {
	for _, d := range s.open {
		if d.Number == number && d.Challenger == who {
			return d, true
		}
	}
	return api.Duel{}, false
}

// usedFields says which fields each kind uses, as the chapter's table does.
func usedFields(kind int) []string {
	return map[int][]string{
		1: {"Token"}, 2: {"Token", "Index"}, 3: {"Token", "To", "Amount", "Gas"}, 4: {"Body"}, 5: {"Body"}, 6: {}, 7: {"Number", "Body"},
		8: {"Number"}, 9: {"Number", "To", "Body"}, 10: {"Number", "Index"}, 11: {"Number", "Body"}, 12: {"Number", "To"}, 13: {"Body", "Path"},
	}[kind]
}

// sayCheck goes through the fields one by one: what is used must be within its bounds, what is not used must be nothing.
func sayCheck(o api.Op) api.Errno {
	if o.Kind < 1 || o.Kind > 13 {
		return 181
	}
	body := 4194304
	if o.Kind == 4 {
		body = 4096
	}
	used := usedFields(o.Kind)
	for _, f := range []struct {
		name          string
		is, from, top int
	}{
		{"Token", o.Token, 0, 63}, {"Index", o.Index, 0, 1}, {"Gas", o.Gas, 0, 1099511627776}, {"Number", o.Number, 1, 1099511627776},
		{"Body", len(o.Body), 0, body}, {"Path", len(o.Path), 0, 64},
	} {
		if !slices.Contains(used, f.name) {
			f.from, f.top = 0, 0
		}
		if f.is < f.from || f.is > f.top {
			return 181
		}
	}
	if !slices.Contains(used, "To") && o.To != (api.Address{}) || !slices.Contains(used, "Amount") && o.Amount != (api.Wide{}) {
		return 181
	}
	return 0
}

// why is why an operation is refused, if it is.
func (s *said) why(now int, o api.Op) api.Errno {
	if now < 0 || now > 4611686018427387904 || now < s.now() {
		return 182
	}
	if e := sayCheck(o); e != 0 {
		return e
	}
	switch o.Kind {
	case 1, 2:
		return s.whyToken(o)
	case 3:
		return s.whyDeposit(o)
	case 5:
		return s.whyPost(now, o)
	case 6:
		return s.whyConfirm(now)
	case 7:
		return s.whyChallenge(now, o)
	case 8:
		return s.whyDuel(now, o)
	case 9, 10, 11:
		return s.whyMove(now, o)
	case 12:
		return s.whyExpire(now, o)
	case 13:
		return s.whyClaim(o)
	}
	return 0
}

func (s *said) whyToken(o api.Op) api.Errno {
	how := s.listed(o.Token)
	switch {
	case o.By != s.config.Owner:
		return 183
	case o.Kind == 1 && how != 0:
		return 142
	case o.Kind == 2 && how == 0:
		return 141
	case o.Kind == 2 && how == 1+o.Index:
		return 143
	}
	return 0
}

func (s *said) whyDeposit(o api.Op) api.Errno {
	switch s.listed(o.Token) {
	case 0:
		return 141
	case 2:
		return 143
	}
	if o.Amount == (api.Wide{}) {
		return 144
	}
	if sum := s.held()[o.Token]; sum.Add(sum, great(o.Amount)).Cmp(power(256)) >= 0 {
		return 145
	}
	return 0
}

func (s *said) whyPost(now int, o api.Op) api.Errno {
	c, e := ladder.Read(o.Body)
	if e != 0 {
		return e
	}
	if end := new(big.Int).Add(big.NewInt(int64(now)), big.NewInt(int64(s.config.Window))); end.Cmp(power(62)) > 0 {
		return 168
	}
	top := s.top()
	if c.Count <= top.Count || c.Count > top.Count+1024 || c.Leaves < top.Leaves {
		return 161
	}
	if c.Count > len(s.entries()) {
		return 162
	}
	if len(s.of(isPending)) == 32 {
		return 163
	}
	return 0
}

func (s *said) whyConfirm(now int) api.Errno {
	l := s.of(isPending)
	if len(l) == 0 {
		return 164
	}
	if l[0].Duels > 0 {
		return 166
	}
	if now < l[0].Deadline {
		return 165
	}
	return 0
}

func (s *said) whyChallenge(now int, o api.Op) api.Errno {
	p, from, there := s.find(o.Number)
	if !there {
		return 164
	}
	if p.Commit.Count-from.Count > 32 {
		return 184
	}
	if now >= p.Deadline {
		return 167
	}
	w, e := witness.Read(o.Body)
	if e != 0 {
		return e
	}
	shown, e := witness.Replay(from, w, s.entries()[from.Count:p.Commit.Count]...)
	if e != 0 {
		return e
	}
	if shown == p.Commit {
		return 185
	}
	return 0
}

func (s *said) whyDuel(now int, o api.Op) api.Errno {
	p, from, there := s.find(o.Number)
	if !there {
		return 164
	}
	if p.Commit.Count-from.Count < 2 {
		return 170
	}
	if now >= p.Deadline {
		return 167
	}
	if o.By == p.Poster {
		return 172
	}
	if _, there := s.duel(o.Number, o.By); there {
		return 186
	}
	return 0
}

// whose is who is the challenger of the duel that an operation names.
func whose(o api.Op) api.Address {
	if o.Kind == 9 || o.Kind == 12 {
		return o.To
	}
	return o.By
}

// whyMove: a split, a pick or a proof. The duel's own time is never above the contract's.
func (s *said) whyMove(now int, o api.Op) api.Errno {
	d, there := s.duel(o.Number, whose(o))
	if !there {
		return 186
	}
	var middle api.Commit
	var w api.Witness
	var e api.Errno
	switch o.Kind {
	case 9:
		middle, e = ladder.Read(o.Body)
	case 11:
		w, e = witness.Read(o.Body)
	}
	if e != 0 {
		return e
	}
	if d.State != o.Kind-8 {
		return 171
	}
	if mover := map[int]api.Address{1: d.Defender, 2: d.Challenger, 3: d.Challenger}[d.State]; o.By != mover {
		return 172
	}
	if now > d.Until {
		return 173
	}
	switch o.Kind {
	case 9:
		if middle.Count != half(d) {
			return 175
		}
	case 11:
		shown, e := witness.Replay(d.Low, w, s.entries()[d.Low.Count])
		if e != 0 {
			return e
		}
		if shown == d.High {
			return 176
		}
	}
	return 0
}

// half is the count that is to be told in a split.
func half(d api.Duel) int { return (d.Low.Count + d.High.Count) / 2 }

func (s *said) whyExpire(now int, o api.Op) api.Errno {
	d, there := s.duel(o.Number, o.To)
	if !there {
		return 186
	}
	if now <= d.Until {
		return 174
	}
	return 0
}

func (s *said) whyClaim(o api.Op) api.Errno {
	l, e := outbox.Read(o.Body)
	if e != 0 {
		return 187
	}
	if c := s.confirmed(); outbox.Check(c.Outbox, c.Leaves, l, o.Path) != 0 {
		return 187
	}
	if s.listed(l.Token) == 0 {
		return 141
	}
	if s.paid()[l.Index] > 0 {
		return 147
	}
	if s.held()[l.Token].Cmp(great(l.Amount)) < 0 {
		return 146
	}
	return 0
}

// turn begins a turn of a duel.
func (s *said) turn(d api.Duel, state, now int) api.Duel {
	d.State = state
	d.Until = min(now+s.config.Turn, 4611686018427387904)
	return d
}

// do does an operation that is not refused, and writes it down.
func (s *said) do(now int, o api.Op) api.Result {
	if e := s.why(now, o); e != 0 {
		return api.Result{Code: e}
	}
	var r api.Result
	switch o.Kind {
	case 3, 4:
		r.Number = len(s.entries())
	case 5:
		c, _ := ladder.Read(o.Body)
		r.Number = len(s.all) + 1
		s.all = append(s.all, record{Pending: api.Pending{Number: r.Number, Commit: c, Poster: o.By, Posted: now, Deadline: now + s.config.Window}})
	case 6:
		p := s.of(isPending)[0]
		s.all[p.Number-1].fate = isConfirmed
		r = api.Result{Number: p.Number, Pays: []api.Pay{s.bond(2, p.Poster, p.Number)}}
	case 7, 11:
		r = s.fall(o.Number, o.By)
	case 8:
		p, from, _ := s.find(o.Number)
		s.open = append(s.open, s.turn(api.Duel{Number: o.Number, Challenger: o.By, Defender: p.Poster, Low: from, High: p.Commit}, 1, now))
		r.Number = o.Number
	case 9, 10:
		s.move(now, o)
		r.Number = o.Number
	case 12:
		r = s.expire(o)
	case 13:
		l, _ := outbox.Read(o.Body)
		r.Pays = []api.Pay{{Why: 1, Token: l.Token, To: l.To, Amount: l.Amount, Index: l.Index}}
	}
	s.done = append(s.done, deed{now, keptOp(o), keptResult(r)})
	return r
}

// keptOp is an operation of the words' own.
func keptOp(o api.Op) api.Op {
	o.Body, o.Path = bytes.Clone(o.Body), slices.Clone(o.Path)
	return o
}

func keptResult(r api.Result) api.Result {
	r.Pays = slices.Clone(r.Pays)
	return r
}

func (s *said) bond(why int, to api.Address, number int) api.Pay {
	return api.Pay{Why: why, Token: 0, To: to, Amount: s.config.Bond, Index: number}
}

func (s *said) fall(number int, to api.Address) api.Result {
	r := api.Result{Number: number}
	for _, p := range s.of(isPending) {
		if p.Number < number {
			continue
		}
		if p.Number == number {
			r.Pays = append(r.Pays, s.bond(3, to, number))
		} else {
			r.Pays = append(r.Pays, s.bond(2, p.Poster, p.Number))
		}
		for _, d := range s.over(p.Number) {
			r.Pays = append(r.Pays, s.bond(2, d.Challenger, p.Number))
		}
		s.all[p.Number-1].fate = isFallen
		s.open = slices.DeleteFunc(s.open, func(d api.Duel) bool { return d.Number == p.Number })
	}
	return r
}

func (s *said) move(now int, o api.Op) {
	for i, d := range s.open {
		if d.Number != o.Number || d.Challenger != whose(o) {
			continue
		}
		if o.Kind == 9 {
			d.Middle, _ = ladder.Read(o.Body)
			s.open[i] = s.turn(d, 2, now)
			return
		}
		if o.Index == 1 {
			d.Low = d.Middle
		} else {
			d.High = d.Middle
		}
		d.Middle = api.Commit{}
		d.Rounds++
		state := 1
		if d.High.Count == d.Low.Count+1 {
			state = 3
		}
		s.open[i] = s.turn(d, state, now)
		return
	}
}

func (s *said) expire(o api.Op) api.Result {
	d, _ := s.duel(o.Number, o.To)
	if d.State == 1 {
		return s.fall(o.Number, o.To)
	}
	s.open = slices.DeleteFunc(s.open, func(x api.Duel) bool { return x == d })
	return api.Result{Number: o.Number, Pays: []api.Pay{s.bond(3, d.Defender, o.Number)}}
}

func sameResult(a, b api.Result) bool {
	return a.Code == b.Code && a.Number == b.Number && slices.Equal(a.Pays, b.Pays)
}

func sameEntry(a, b api.Entry) bool {
	return a.Kind == b.Kind && a.Sender == b.Sender && a.Time == b.Time && a.Token == b.Token && a.To == b.To && a.Amount == b.Amount && a.Gas == b.Gas && bytes.Equal(a.Body, b.Body)
}

// oddNumbers are such at which something could turn, of tokens and of indices.
func oddNumbers() []int {
	return []int{math.MinInt, math.MinInt32, -64, -1, 64, 65, 1 << 32, 1<<40 - 1, 1 << 40, 1<<40 + 1, math.MaxInt}
}

// differ tells where a contract tells something else than the words; nothing, if it does not.
func (s *said) differ(c *Contract) string {
	if c.Config() != s.config || c.Now() != s.now() {
		return fmt.Sprintf("Config is %+v, Now %d, not %+v, %d", c.Config(), c.Now(), s.config, s.now())
	}
	if got, wanted := c.Locked(), s.locked(); got != wanted || s.bonds() != len(s.of(isPending))+len(s.open) {
		return fmt.Sprintf("Locked is %v, not %v: %d bonds", got, wanted, s.bonds())
	}
	if c.Confirmed() != s.confirmed() || c.Top() != s.top() {
		return fmt.Sprintf("Confirmed is %+v, Top %+v, not %+v, %+v", c.Confirmed(), c.Top(), s.confirmed(), s.top())
	}
	if got, wanted := c.Pending(), s.of(isPending); !slices.Equal(got, wanted) {
		return fmt.Sprintf("Pending is %+v, not %+v", got, wanted)
	}
	if got, wanted := c.Duels(), s.duels(); !slices.Equal(got, wanted) {
		return fmt.Sprintf("Duels is %+v, not %+v", got, wanted)
	}
	if text := s.differTokens(c); text != "" {
		return text
	}
	return s.differInbox(c)
}

func (s *said) differTokens(c *Contract) string {
	held, paid := s.held(), s.paid()
	for token, wanted := range held {
		how := s.listed(token)
		there, stopped := c.Listed(token)
		if c.Held(token) != small(wanted) || there != (how > 0) || stopped != (how == 2) {
			return fmt.Sprintf("of token %d: held %v, listed %v, stopped %v, not %v, %d", token, c.Held(token), there, stopped, wanted, how)
		}
	}
	for _, n := range oddNumbers() {
		if there, stopped := c.Listed(n); c.Held(n) != (api.Wide{}) || there || stopped {
			return fmt.Sprintf("of token %d: held %v, listed %v, stopped %v", n, c.Held(n), there, stopped)
		}
		if c.Paid(n) != (paid[n] > 0) {
			return fmt.Sprintf("Paid(%d) is %v", n, c.Paid(n))
		}
	}
	for n := range 80 {
		if c.Paid(n) != (paid[n] > 0) {
			return fmt.Sprintf("Paid(%d) is %v", n, c.Paid(n))
		}
	}
	for n, times := range paid {
		if times != 1 || !c.Paid(n) {
			return fmt.Sprintf("%d was paid %d times; Paid is %v", n, times, c.Paid(n))
		}
	}
	return ""
}

func (s *said) differInbox(c *Contract) string {
	box, wanted := c.Inbox(), s.entries()
	got, e := box.Entries(0, box.Len())
	if e != 0 || !slices.EqualFunc(got, wanted, sameEntry) {
		return fmt.Sprintf("the inbox has %+v, %d, not %+v", got, int(e), wanted)
	}
	if link, e := box.Link(box.Len()); e != 0 || link != s.link() {
		return fmt.Sprintf("the link is %x, %d, not %x", link, int(e), s.link())
	}
	return ""
}
