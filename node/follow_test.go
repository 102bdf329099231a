package node

import (
	"fmt"
	"math/rand"
	"slices"
	"testing"

	"causeway/api"
	"causeway/inbox"
	"causeway/outbox"
	"causeway/witness"
)

// steps is how many a script has: a tenth of them where little time is given.
func steps(n int) int {
	if testing.Short() {
		return n / 10
	}
	return n
}

// longest is how many entries a script lets a box have.
const longest = 70

// script draws boxes that fork from one another, Follows over them, and questions.
type script struct {
	*rand.Rand
	both
	boxes []*inbox.Box
	said  *said // of the entries that the node has, till it follows again
}

func newScript(t testing.TB, seed int) *script {
	r := &script{Rand: rand.New(rand.NewSource(int64(seed)))}
	r.both = *newBoth(zed)
	for range 4 {
		r.boxes = append(r.boxes, inbox.New())
	}
	return r
}

func (r *script) person() api.Address { return someone(byte(r.Intn(4))) }

func (r *script) amount() uint64 { return uint64(1 + r.Intn(9)) }

// token is mostly one of which there is something.
func (r *script) token() int { return []int{0, 0, 0, 0, 1, 1, 2, 63}[r.Intn(8)] }

// letter draws one, many of which are done.
func (r *script) letter() api.Letter {
	token, to, number := r.token(), r.person(), 1+r.Intn(6)
	switch k := r.Intn(100); {
	case k < 25:
		return burn(token, to, r.amount())
	case k < 40:
		return move(token, to, r.amount())
	case k < 50:
		return numbered(api.LetterRetry, number)
	case k < 60:
		return numbered(api.LetterCancel, number)
	case k < 65:
		return allow(token, to, r.amount()-1)
	case k < 70:
		return pull(token, r.person(), to, r.amount())
	case k < 75:
		return coding([][]byte{saver(), giver()}[r.Intn(2)])
	case k < 82:
		return calling(1+r.Intn(3), token, uint64(r.Intn(4)), 1+r.Intn(1200), uint64(r.Intn(3)), uint64(r.Intn(3)))
	case k < 94:
		return many(burn(token, to, r.amount()), burn(token, to, r.amount()), move(token, to, r.amount()))
	}
	return tokened(api.LetterToken+r.Intn(3), token)
}

// entry draws one that may stand behind a time.
func (r *script) entry(time int) api.Entry {
	time += r.Intn(3) / 2
	switch k := r.Intn(100); {
	case k < 30:
		return at(time, deposit(r.person(), r.token(), r.person(), 9+r.amount(), 98+r.Intn(20)))
	case k < 45:
		return at(time, written(zed, tokened(api.LetterToken+r.Intn(6)/4, r.token())))
	case k < 48:
		return at(time, written(zed, tokened(api.LetterResume, r.token())))
	case k < 50:
		return api.Entry{Kind: 1, Sender: r.person(), Time: time, Token: r.token(), To: r.person(), Amount: most(), Gas: 100}
	case k < 54:
		return at(time, sent(r.person(), make([]byte, r.Intn(4))...))
	}
	return at(time, written(r.person(), r.letter()))
}

// grow adds entries to a box, or begins it anew where it is long.
func (r *script) grow(i int) {
	if r.boxes[i].Len() > longest {
		r.boxes[i] = inbox.New()
	}
	for range 1 + r.Intn(9) {
		time := 0
		if n := r.boxes[i].Len(); n > 0 {
			time = sure(r.boxes[i].Entry(n - 1)).Time
		}
		sure(r.boxes[i].Add(r.entry(time)))
	}
}

// fork lets a box be the first entries of another one, and some more; or a copy of it.
func (r *script) fork(t testing.TB, i, j int) {
	l := inBox(r.boxes[j])
	switch n := len(l); r.Intn(4) {
	case 0:
		r.boxes[i] = r.boxes[j].Copy()
	case 1:
		r.boxes[i] = boxOf(t, l[:r.Intn(n+1)]...)
	case 2:
		r.boxes[i] = boxOf(t, l[:n-r.Intn(min(n, 9)+1)]...)
	case 3:
		if n > 0 {
			k := r.Intn(n)
			r.boxes[i] = boxOf(t, with(l, k, other(l[k]))...)
		}
	}
}

// lead lets the node follow a box, and tells how that was.
func (r *script) lead(t testing.TB, what string, i int) string {
	had, k := len(r.entries), common(r.entries, inBox(r.boxes[i]))
	r.follow(t, what, r.boxes[i], 1+r.Intn(16))
	r.said = nil
	switch more := r.boxes[i].Len() > k; {
	case had == k && !more:
		return "nothing new"
	case had == k:
		return "goes on"
	case k == 0 && more:
		return "nothing in common"
	case !more:
		return "shorter"
	}
	return "another one"
}

// refused lets the node follow what it must not.
func (r *script) refused(t testing.TB, what string, i int) {
	box, workers, wanted := r.boxes[i], 1+r.Intn(16), api.Errno(1)
	switch r.Intn(3) {
	case 0:
		box = nil
	case 1:
		workers = []int{-1, 0, 17, 99}[r.Intn(4)]
	default:
		k := r.node.Fork(box)
		if k == box.Len() {
			return
		}
		l := bad()
		box, wanted = spoiled(t, inBox(box), k+r.Intn(box.Len()-k), l[r.Intn(len(l))]), 201
	}
	if k, e := r.node.Follow(box, workers); k != 0 || e != wanted {
		t.Errorf("%s: Follow is %d, %d, not %d", what, k, int(e), int(wanted))
	}
}

// again is what the node is by the words.
func (r *script) again() *said {
	if r.said == nil {
		r.said = reckon(r.admin, r.entries)
	}
	return r.said
}

// ask asks the node for all, with some witnesses, and holds them against the words.
func (r *script) ask(t testing.TB, what string) {
	var spans []span
	if n := len(r.entries); n > 0 {
		for range 3 {
			from := r.Intn(n)
			spans = append(spans, span{from, from + 1 + r.Intn(min(32, n-from))})
		}
	}
	if text := r.again().differ(r.node, spans); text != "" {
		t.Errorf("%s: %s", what, text)
	}
	for _, x := range spans {
		w := sure(r.node.Witness(x.from, x.to))
		if c, e := witness.Replay(sure(r.node.Commit(x.from)), w, r.entries[x.from:x.to]...); e != 0 || c != sure(r.node.Commit(x.to)) {
			t.Errorf("%s: the witness %v, replayed: %v, %d", what, x, c, int(e))
		}
	}
}

// few asks the node for little, as one does in between.
func (r *script) few(t testing.TB, what string) {
	s := r.again()
	i, box := r.Intn(len(s.commits)), r.boxes[r.Intn(len(r.boxes))]
	if c, e := r.node.Commit(i); c != s.commits[i] || e != 0 {
		t.Errorf("%s: Commit(%d) is %v, %d", what, i, c, int(e))
	}
	if got, wanted := r.node.Fork(box), common(r.entries, inBox(box)); got != wanted {
		t.Errorf("%s: Fork is %d, not %d", what, got, wanted)
	}
	if n := len(s.leaves); n > 0 {
		i := r.Intn(n)
		leaf, path := sure(r.node.Leaf(i)), sure(r.node.Path(i, n))
		last := s.commits[len(s.commits)-1]
		if e := outbox.Check(last.Outbox, n, leaf, path); leaf != s.leaves[i] || e != 0 {
			t.Errorf("%s: leaf %d: %+v, %d", what, i, leaf, int(e))
		}
	}
}

func (r *script) step(t testing.TB, what string, seen map[string]int) {
	i, j := r.Intn(len(r.boxes)), r.Intn(len(r.boxes))
	switch k := r.Intn(100); {
	case k < 30:
		r.grow(i)
	case k < 45:
		r.fork(t, i, j)
	case k < 80:
		seen[r.lead(t, what, i)]++
	case k < 87:
		r.refused(t, what, i)
		seen["refused"]++
	default:
		r.few(t, what)
	}
}

// Long scripts of Follows over boxes that fork from one another, and questions, against a second reckoning that executes the entries anew.
func TestP20_8_LongScripts(t *testing.T) {
	seen := map[string]int{}
	for seed := range 6 {
		r := newScript(t, seed)
		for i := range steps(500) {
			what := fmt.Sprint("script ", seed, ", step ", i)
			r.step(t, what, seen)
			if i%3 == 0 {
				r.ask(t, what)
				wantNothingLost(t, what, r.node, r.entries)
				for _, x := range r.again().receipts {
					seen[fmt.Sprint("receipt ", int(x.Code))]++
					seen[fmt.Sprint("leaves ", x.Leaves)]++
				}
			}
			if i%20 == 0 {
				wantShown(t, what, r.node)
			}
			if t.Failed() {
				return
			}
		}
	}
	wanted := []string{"nothing new", "goes on", "nothing in common", "shorter", "another one", "refused", "leaves 1", "leaves 2"}
	for _, code := range []int{0, 81, 82, 83, 84, 85, 86, 87, 90, 91, 102, 122, 123, 124, 125} {
		wanted = append(wanted, fmt.Sprint("receipt ", code))
	}
	for _, x := range wanted {
		if seen[x] < 5 && !testing.Short() {
			t.Errorf("%s came %d times", x, seen[x])
		}
	}
}

// Two roads to the same entries: the one over other boxes, with questions, the other at one stroke. All that follows is answered alike.
func TestP20_8_TwoRoads(t *testing.T) {
	for seed := range steps(60) {
		r := newScript(t, 500+seed)
		for i := range 40 {
			r.step(t, fmt.Sprint("seed ", seed, ", step ", i), map[string]int{})
		}
		straight := newBoth(zed)
		straight.follow(t, "at one stroke", boxOf(t, r.entries...), 1+seed%16)
		if held(straight.node) != held(r.node) {
			t.Fatalf("seed %d: the two nodes have something else", seed)
		}
		for _, box := range r.boxes {
			r.follow(t, "on", box, 1)
			straight.follow(t, "on", box, 16)
			if held(straight.node) != held(r.node) {
				t.Fatalf("seed %d: the two nodes have something else", seed)
			}
		}
	}
}

// What is asked in between turns no answer.
func TestR5_AskedOrNot(t *testing.T) {
	for seed := range steps(20) {
		r, silent := newScript(t, 900+seed), newBoth(zed)
		for i := range 15 {
			what := fmt.Sprint("seed ", seed, ", step ", i)
			r.grow(i % 4)
			r.fork(t, r.Intn(4), r.Intn(4))
			box := r.boxes[r.Intn(4)]
			r.ask(t, what)
			r.follow(t, what, box, 2)
			r.said = nil
			r.few(t, what)
			silent.follow(t, what, box, 3)
		}
		if held(silent.node) != held(r.node) {
			t.Fatalf("seed %d: the two nodes have something else", seed)
		}
	}
}

func FuzzAgainstTheWords(f *testing.F) {
	f.Add([]byte("\x00\x01\x02\x80\x03\x04\x40\x01\x00\x81\x05\x06\xc0\x00\x00\x00\x07\x08"))
	f.Add([]byte("\x03\x11\x02\x83\x13\x24\x02\x21\x40\x82\x03\x00\x43\x03\x00\x83\x07\x08\x40\x08\x00\x80\x05\x05\xc1\x01\x01"))
	f.Add([]byte("\x00\xff\x00\x01\xfe\x01\x80\xfd\x02\x81\xfc\x03\x80\xfb\x04\x81\xfa\x05\x41\xf9\x06\x81\xf8\x07\xe0\xf7\x08\x40\x08\x00\x80\x00\x00"))
	f.Fuzz(func(t *testing.T, text []byte) {
		r := newScript(t, len(text))
		for i := 0; len(text) >= 3 && i < 40; i, text = i+1, text[3:] {
			x, what := text[:3], fmt.Sprint("step ", i)
			r.Rand = rand.New(rand.NewSource(int64(x[1])<<8 | int64(x[2])))
			box := int(x[0] & 3)
			switch x[0] >> 6 {
			case 0:
				r.grow(box)
			case 1:
				r.fork(t, box, int(x[1]&3))
			case 2:
				r.lead(t, what, box)
			case 3:
				r.refused(t, what, box)
				r.few(t, what)
			}
		}
		r.ask(t, "at last")
		wantNothingLost(t, "at last", r.node, r.entries)
		wantShown(t, "at last", r.node)
	})
}

// deposits are so many, each for somebody else.
func deposits(n int) []api.Entry {
	l := []api.Entry{written(zed, tokened(api.LetterToken, 0))}
	for i := range n {
		to := bob
		to[10], to[11] = byte(i), byte(i>>8)
		l = append(l, deposit(ann, 0, to, 5, 100))
	}
	return l
}

// A great inbox is followed, left and come back to in little time.
func TestGreat(t *testing.T) {
	n := steps(5000)
	l := deposits(n)
	b, box := newBoth(zed), boxOf(t, l...)
	b.follow(t, "a great one", box, 16)
	last := sure(b.node.Commit(n + 1))
	b.follow(t, "back", boxOf(t, with(l[:n/2], n/2-1, other(l[n/2-1]))...), 16)
	b.follow(t, "again", box, 16)
	if c := sure(b.node.Commit(n + 1)); c != last || sure(b.node.Token(0)).Supply != of(uint64(5*n)) {
		t.Errorf("the commit is %v, not %v", c, last)
	}
	for _, x := range []span{{0, 32}, {n / 2, n/2 + 32}, {n, n + 1}} {
		w := sure(b.node.Witness(x.from, x.to))
		if c, e := witness.Replay(sure(b.node.Commit(x.from)), w, l[x.from:x.to]...); e != 0 || c != sure(b.node.Commit(x.to)) {
			t.Errorf("the witness %v, replayed: %v, %d", x, c, int(e))
		}
	}
}

// What an entry costs hangs little on how many are ahead of it.
func BenchmarkFollow(b *testing.B) {
	box := boxOf(b, deposits(5000)...)
	for b.Loop() {
		if _, e := New(zed).Follow(box, 4); e != api.OK {
			b.Fatal(e)
		}
	}
}

func BenchmarkWitness(b *testing.B) {
	n := New(zed)
	n.Follow(boxOf(b, deposits(5000)...), 4)
	for _, from := range []int{0, 4900} {
		b.Run(fmt.Sprint(from), func(b *testing.B) {
			for b.Loop() {
				if _, e := n.Witness(from, from+1); e != api.OK {
					b.Fatal(e)
				}
			}
		})
	}
}

func BenchmarkDetour(b *testing.B) {
	l := deposits(5000)
	one, two := boxOf(b, l...), boxOf(b, with(l, 4990, other(l[4990]))...)
	n := New(zed)
	boxes := slices.Repeat([]*inbox.Box{one, two}, 1)
	for i := 0; b.Loop(); i++ {
		if _, e := n.Follow(boxes[i%2], 4); e != api.OK {
			b.Fatal(e)
		}
	}
}
