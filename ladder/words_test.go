package ladder

import (
	"bytes"
	"fmt"
	"math"
	"math/big"
	"slices"

	"causeway/api"
)

// The second reckoning: a ladder is the record of all that was ever posted, each with what became of it, and of all times; who is pending is looked for in it anew whenever it is asked. Sums and bytes are made by the library's great numbers. Errors and limits are written out, not taken from api.

// sayNumber lays a natural as its length in a byte and its bytes, the highest first and no nought ahead.
func sayNumber(text []byte, n int) []byte {
	b := big.NewInt(int64(n)).Bytes()
	return append(append(text, byte(len(b))), b...)
}

func sayCounts(n int) bool { return n >= 0 && n <= 1099511627776 }

func sayBytes(c api.Commit) ([]byte, api.Errno) {
	if !sayCounts(c.Count) || !sayCounts(c.Leaves) {
		return nil, 160
	}
	text := sayNumber([]byte{65}, c.Count)
	text = append(append(text, c.State[:]...), c.Outbox[:]...)
	return sayNumber(text, c.Leaves), 0
}

// sayRead guesses the only commit whose bytes these could be, and writes that.
func sayRead(b []byte) (api.Commit, api.Errno) {
	if len(b) < 67 || len(b) < 67+int(b[1]) {
		return api.Commit{}, 160
	}
	k := 2 + int(b[1])
	count, leaves := new(big.Int).SetBytes(b[2:k]), new(big.Int).SetBytes(b[k+65:])
	if !count.IsInt64() || !leaves.IsInt64() {
		return api.Commit{}, 160
	}
	c := api.Commit{Count: int(count.Int64()), State: api.Digest(b[k : k+32]), Outbox: api.Digest(b[k+32 : k+64]), Leaves: int(leaves.Int64())}
	if text, e := sayBytes(c); e != 0 || !bytes.Equal(text, b) {
		return api.Commit{}, 160
	}
	return c, 0
}

// What became of an assertion.
const (
	isPending = iota
	isConfirmed
	isDropped
)

// record is an assertion that was posted at some time.
type record struct {
	api.Pending
	fate int
}

// said is what a ladder is by the words.
type said struct {
	first  api.Commit
	window int
	times  []int    // of all Posts and Confirms that were done
	all    []record // number n is all[n-1]
}

func sayNew(first api.Commit, window int) (*said, api.Errno) {
	if _, e := sayBytes(first); e != 0 {
		return nil, 160
	}
	if window < 1 || window > 4611686018427387904 {
		return nil, 1
	}
	return &said{first: first, window: window}, 0
}

func (s *said) copied() *said {
	return &said{first: s.first, window: s.window, times: slices.Clone(s.times), all: slices.Clone(s.all)}
}

func (s *said) of(fate int) []api.Pending {
	var l []api.Pending
	for _, r := range s.all {
		if r.fate == fate {
			l = append(l, r.Pending)
		}
	}
	return l
}

func (s *said) confirmed() api.Commit {
	last := s.first
	for _, p := range s.of(isConfirmed) {
		last = p.Commit
	}
	return last
}

func (s *said) top() api.Commit {
	last := s.confirmed()
	for _, p := range s.of(isPending) {
		last = p.Commit
	}
	return last
}

// lastTime is that of the last Post or Confirm, 0 if there was none.
func (s *said) lastTime() int {
	if len(s.times) == 0 {
		return 0
	}
	return s.times[len(s.times)-1]
}

// sayTime tells whether there is such a time.
func sayTime(now *big.Int) bool {
	return now.Sign() >= 0 && now.Cmp(new(big.Int).Lsh(big.NewInt(1), 62)) <= 0
}

func (s *said) timeMayBe(now int) bool {
	return sayTime(big.NewInt(int64(now))) && now >= s.lastTime()
}

// above tells by how much a number is above another one.
func above(a, b int) *big.Int { return new(big.Int).Sub(big.NewInt(int64(a)), big.NewInt(int64(b))) }

func (s *said) post(c api.Commit, by api.Address, inbox, now int) (int, api.Errno) {
	end := new(big.Int).Add(big.NewInt(int64(now)), big.NewInt(int64(s.window)))
	if !s.timeMayBe(now) || !sayTime(end) {
		return 0, 168
	}
	more := above(c.Count, s.top().Count)
	if more.Sign() <= 0 || more.Cmp(big.NewInt(1024)) > 0 || c.Count > 1099511627776 {
		return 0, 161
	}
	if c.Leaves < s.top().Leaves || c.Leaves > 1099511627776 {
		return 0, 161
	}
	if c.Count > inbox {
		return 0, 162
	}
	if len(s.of(isPending)) == 32 {
		return 0, 163
	}
	n := len(s.all) + 1
	s.all = append(s.all, record{Pending: api.Pending{Number: n, Commit: c, Poster: by, Posted: now, Deadline: int(end.Int64())}})
	s.times = append(s.times, now)
	return n, 0
}

func (s *said) confirm(now int) (api.Pending, api.Errno) {
	if !s.timeMayBe(now) {
		return api.Pending{}, 168
	}
	l := s.of(isPending)
	if len(l) == 0 {
		return api.Pending{}, 164
	}
	if l[0].Duels > 0 {
		return api.Pending{}, 166
	}
	if now < l[0].Deadline {
		return api.Pending{}, 165
	}
	s.all[l[0].Number-1].fate = isConfirmed
	s.times = append(s.times, now)
	return l[0], 0
}

func (s *said) drop(number int) ([]api.Pending, api.Errno) {
	if _, e := s.find(number); e != 0 {
		return nil, 164
	}
	var l []api.Pending
	for _, p := range s.of(isPending) {
		if p.Number >= number {
			s.all[p.Number-1].fate = isDropped
			l = append(l, p)
		}
	}
	return l, 0
}

func (s *said) hold(number, now int) api.Errno {
	if !sayTime(big.NewInt(int64(now))) {
		return 168
	}
	p, e := s.find(number)
	if e != 0 {
		return 164
	}
	if now >= p.Deadline {
		return 167
	}
	s.all[number-1].Duels++
	return 0
}

func (s *said) release(number int) api.Errno {
	p, e := s.find(number)
	if e != 0 {
		return 164
	}
	if p.Duels == 0 {
		return 166
	}
	s.all[number-1].Duels--
	return 0
}

func (s *said) find(number int) (api.Pending, api.Errno) {
	for _, p := range s.of(isPending) {
		if p.Number == number {
			return p, 0
		}
	}
	return api.Pending{}, 164
}

func (s *said) before(number int) (api.Commit, api.Errno) {
	ahead := s.confirmed()
	for _, p := range s.of(isPending) {
		if p.Number == number {
			return ahead, 0
		}
		ahead = p.Commit
	}
	return api.Commit{}, 164
}

// call is a call that can be refused and turns something if it is not.
type call struct {
	name        string
	number, now int
	commit      api.Commit
	by          api.Address
	inbox       int
}

func (c call) String() string {
	switch c.name {
	case "Post":
		return fmt.Sprintf("Post(%d %x %x %d, %x, %d, %d)", c.commit.Count, c.commit.State[:2], c.commit.Outbox[:2], c.commit.Leaves, c.by[:2], c.inbox, c.now)
	case "Confirm":
		return fmt.Sprintf("Confirm(%d)", c.now)
	case "Hold":
		return fmt.Sprintf("Hold(%d, %d)", c.number, c.now)
	}
	return fmt.Sprintf("%s(%d)", c.name, c.number)
}

// answer is all that a call can answer.
type answer struct {
	number int
	one    api.Pending
	list   []api.Pending
	e      api.Errno
}

func (a answer) same(b answer) bool {
	return a.number == b.number && a.one == b.one && slices.Equal(a.list, b.list) && a.e == b.e
}

func (a answer) String() string {
	return fmt.Sprintf("%d, %+v, %+v, error %d", a.number, a.one, a.list, int(a.e))
}

func (c call) inLadder(l *Ladder) (a answer) {
	switch c.name {
	case "Post":
		a.number, a.e = l.Post(c.commit, c.by, c.inbox, c.now)
	case "Confirm":
		a.one, a.e = l.Confirm(c.now)
	case "Drop":
		a.list, a.e = l.Drop(c.number)
	case "Hold":
		a.e = l.Hold(c.number, c.now)
	case "Release":
		a.e = l.Release(c.number)
	}
	return a
}

func (c call) inWords(s *said) (a answer) {
	switch c.name {
	case "Post":
		a.number, a.e = s.post(c.commit, c.by, c.inbox, c.now)
	case "Confirm":
		a.one, a.e = s.confirm(c.now)
	case "Drop":
		a.list, a.e = s.drop(c.number)
	case "Hold":
		a.e = s.hold(c.number, c.now)
	case "Release":
		a.e = s.release(c.number)
	}
	return a
}

// asked are the numbers that were given, those beside them, and some at which something could turn.
func (s *said) asked() []int {
	l := []int{math.MinInt, math.MinInt + 1, math.MinInt32, -2, -1, 1 << 32, 1<<32 + 1, 1 << 40, math.MaxInt32, math.MaxInt - 1, math.MaxInt}
	n := len(s.all)
	for i := max(0, n-70); i <= n+2; i++ { // 32 at most are pending; of a long script the last ones suffice
		l = append(l, i)
	}
	return append(l, 0, 1, 2)
}

// differ tells where a ladder tells something else than the words; nothing, if it does not.
func (s *said) differ(l *Ladder) string {
	if got, wanted := l.Confirmed(), s.confirmed(); got != wanted {
		return fmt.Sprintf("Confirmed is %+v, not %+v", got, wanted)
	}
	if got, wanted := l.Top(), s.top(); got != wanted {
		return fmt.Sprintf("Top is %+v, not %+v", got, wanted)
	}
	if got, wanted := l.Pending(), s.of(isPending); !slices.Equal(got, wanted) {
		return fmt.Sprintf("Pending is %+v, not %+v", got, wanted)
	}
	for _, n := range s.asked() {
		got, e := l.Find(n)
		if wanted, wantedE := s.find(n); got != wanted || e != wantedE {
			return fmt.Sprintf("Find(%d) is %+v, %d, not %+v, %d", n, got, int(e), wanted, int(wantedE))
		}
		ahead, e := l.Before(n)
		if wanted, wantedE := s.before(n); ahead != wanted || e != wantedE {
			return fmt.Sprintf("Before(%d) is %+v, %d, not %+v, %d", n, ahead, int(e), wanted, int(wantedE))
		}
	}
	return ""
}

// probes are calls that show what no call tells: the last time, the window, and the next number.
func (s *said) probes() []call {
	last, top := s.lastTime(), s.top()
	next := api.Commit{Count: top.Count + 1, Leaves: top.Leaves}
	var l []call
	for _, now := range []int{last - 1, last, 1<<62 - s.window, 1<<62 - s.window + 1} {
		l = append(l, call{name: "Confirm", now: now}, call{name: "Post", commit: next, inbox: next.Count, now: now})
	}
	return l
}

// differHidden tells where what a ladder does not tell is another thing than by the words; it is tried on copies.
func (s *said) differHidden(l *Ladder) string {
	for _, c := range s.probes() {
		twin, words := l.Copy(), s.copied()
		if p := words.of(isPending); len(p) == 32 { // room for a Post
			twin.Drop(p[31].Number)
			words.drop(p[31].Number)
			c.commit.Count, c.commit.Leaves = words.top().Count+1, words.top().Leaves
		}
		if got, wanted := c.inLadder(twin), c.inWords(words); !got.same(wanted) {
			return fmt.Sprintf("%v of a copy is %v, not %v", c, got, wanted)
		}
	}
	return ""
}
