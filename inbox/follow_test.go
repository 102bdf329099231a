package inbox

import (
	"fmt"
	"math/rand"
	"slices"
	"testing"

	"causeway/api"
)

// script draws entries and calls over some boxes; few unlike entries, so that boxes have much in common.
type script struct {
	*rand.Rand
	boxes []both
}

func newScript(seed int) *script {
	return &script{rand.New(rand.NewSource(int64(seed))), []both{newBoth(), newBoth()}}
}

func (r *script) one() both { return r.boxes[r.Intn(len(r.boxes))] }

// entry is one that mostly may stand behind a Time.
func (r *script) entry(time int) api.Entry {
	switch r.Intn(14) {
	case 0:
		return wrong()[r.Intn(len(wrong()))].entry
	case 1:
		return right()[r.Intn(9)].entry
	case 2:
		time--
	case 3, 4:
		time++
	}
	switch r.Intn(3) {
	case 0:
		return api.Entry{Kind: 1, Sender: someone(byte(r.Intn(2))), Time: time, Token: r.Intn(2), To: someone(byte(r.Intn(2))), Amount: api.Wide{uint64(1 + r.Intn(2))}, Gas: r.Intn(2)}
	case 1:
		return letterAt(time, long(r.Intn(80))...)
	}
	return letterAt(time, byte(r.Intn(2)))
}

// lastTime is that of the last entry.
func (b both) lastTime() int {
	if n := len(b.said.entries); n > 0 && b.said.entries[n-1].Time < late { // else scripts would stay there
		return b.said.entries[n-1].Time
	}
	return 0
}

// bent is a list in which something was done, or nothing.
func (r *script) bent(l []api.Entry) []api.Entry {
	if len(l) == 0 {
		return l
	}
	i, j := r.Intn(len(l)), r.Intn(len(l))
	switch r.Intn(7) {
	case 0:
		return leftOut(l, i)
	case 1:
		return twice(l, i)
	case 2:
		return turned(l, i, j)
	case 3:
		all := unlike(l[i])
		return putAt(l, i, all[r.Intn(len(all))].entry)
	case 4:
		return putAt(putAt(l, i, r.entry(l[i].Time)), j, r.entry(l[j].Time))
	}
	return l
}

// check asks Check, of two links of a box and of what stands between them, or between others.
func (r *script) check(t testing.TB, what string, b both) api.Errno {
	n := len(b.said.entries)
	from := r.Intn(n + 1)
	to := from + r.Intn(n-from+1)
	list, e := b.box.Entries(from, to)
	if e != api.OK {
		t.Errorf("%s: Entries(%d, %d): %d", what, from, to, int(e))
	}
	list = r.bent(list)
	if r.Intn(8) == 0 {
		from = r.Intn(n + 1)
	}
	got, wanted := Check(b.said.links[from], b.said.links[to], list...), sayCheck(b.said.links[from], b.said.links[to], list)
	if got != wanted {
		t.Errorf("%s: Check from %d to %d is %d, not %d", what, from, to, int(got), int(wanted))
	}
	return got
}

// copy puts a copy of a box beside the others, or in the place of one.
func (r *script) copy(b both) {
	if len(r.boxes) < 6 {
		r.boxes = append(r.boxes, b.copied())
	} else {
		r.boxes[r.Intn(6)] = b.copied()
	}
}

// scribbled asks for entries and writes over all that comes.
func scribbled(b both, from, to int) {
	list, _ := b.box.Entries(from, to)
	for i := range list {
		scribble(list[i].Body)
		list[i].Time = -1
	}
	if one, e := b.box.Entry(from); e == api.OK {
		scribble(one.Body)
	}
}

// step does one thing; the error that came of it.
func (r *script) step(t testing.TB, what string) api.Errno {
	b := r.one()
	switch k := r.Intn(20); {
	case k < 10:
		e := r.entry(b.lastTime())
		got := b.add(t, what, e)
		scribble(e.Body)
		return got
	case k < 11:
		r.copy(b)
	case k < 14:
		return r.check(t, what, b)
	case k < 17:
		other := r.one()
		wantFork(t, what, b, other, b.said.fork(other.said))
	case k < 18:
		scribbled(b, r.Intn(b.box.Len()+1), b.box.Len())
	case k < 19 && r.Intn(20) == 0: // else all grow without end
		r.boxes[r.Intn(len(r.boxes))] = newBoth()
	default:
		e, link := r.entry(5), b.said.links[r.Intn(len(b.said.links))]
		got, fault := Next(link, e)
		if wanted, wantedE := sayNext(link, e); got != wanted || fault != wantedE {
			t.Errorf("%s: Next is %x, %d, not %x, %d", what, got, int(fault), wanted, int(wantedE))
		}
		return fault
	}
	return api.OK
}

func steps(n int) int {
	if testing.Short() {
		return n / 10
	}
	return n
}

// Long scripts of all calls over several boxes and their copies; all that is told is asked behind each entry, and of all boxes now and then.
func TestLongScripts(t *testing.T) {
	for seed := range 6 {
		r := newScript(seed)
		seen := map[api.Errno]int{}
		for i := range steps(1500) {
			what := fmt.Sprint("script ", seed, ", step ", i)
			seen[r.step(t, what)]++
			if i%25 == 0 {
				for j, b := range r.boxes {
					b.wantTold(t, fmt.Sprint(what, ", box ", j))
				}
			}
			if t.Failed() {
				return
			}
		}
		for _, e := range []api.Errno{0, 150, 153, 154} {
			if seen[e] == 0 && !testing.Short() {
				t.Errorf("script %d never had the answer %d", seed, int(e))
			}
		}
	}
}

// drawn is a box of some entries.
func drawn(r *script, n int) both {
	b := newBoth()
	for len(b.said.entries) < n {
		e := r.entry(b.lastTime())
		b.box.Add(e)
		b.said.add(e)
	}
	return b
}

// Every row of a box's entries leads from its link to its link, asked of the box alone.
func TestP15_7_EveryRowLeadsThere(t *testing.T) {
	for seed := range steps(40) {
		b := drawn(newScript(1000+seed), seed%24).box
		for i := range b.Len() + 1 {
			for j := i; j <= b.Len(); j++ {
				from, e1 := b.Link(i)
				to, e2 := b.Link(j)
				list, e3 := b.Entries(i, j)
				if e := Check(from, to, list...); e != api.OK || e1 != api.OK || e2 != api.OK || e3 != api.OK || len(list) != j-i {
					t.Fatalf("seed %d, from %d to %d: %d", seed, i, j, int(e))
				}
			}
		}
	}
}

// No other row of so many entries leads there: neither one with an entry changed, nor one with two turned about, nor one of other entries of the box, nor one of another box.
func TestP15_8_NoOtherRowLeadsThere(t *testing.T) {
	for seed := range steps(30) {
		r := newScript(2000 + seed)
		b := drawn(r, 2+seed%12)
		n := b.box.Len()
		other := drawn(r, n)
		for i := range n + 1 {
			for j := i; j <= n; j++ {
				was := b.said.entries[i:j]
				from, to := b.said.links[i], b.said.links[j]
				for _, l := range rowsBeside(r, b.said.entries, other.said.entries, i, j) {
					if e := Check(from, to, l...); (e == api.OK) != slices.EqualFunc(l, was, same) {
						t.Fatalf("seed %d, from %d to %d: Check of another row is %d", seed, i, j, int(e))
					}
				}
			}
		}
	}
}

// rowsBeside are rows of j - i entries, of which some may be those from i to j.
func rowsBeside(r *script, of, other []api.Entry, i, j int) [][]api.Entry {
	was := of[i:j]
	rows := [][]api.Entry{was, other[i:j], backwards(was)}
	for k := range len(of) - (j - i) + 1 {
		rows = append(rows, of[k:k+j-i])
	}
	for k := range was {
		all := unlike(was[k])
		rows = append(rows, putAt(was, k, all[r.Intn(len(all))].entry), putAt(was, k, other[k]), turned(was, k, r.Intn(len(was))))
	}
	return rows
}

// The same link behind n entries: the first n are alike; behind Fork or fewer: the same links.
func TestP15_9_LinksAndFork(t *testing.T) {
	parted := 0
	for seed := range steps(300) {
		r := newScript(3000 + seed)
		one := drawn(r, r.Intn(12))
		two := one.copied()
		if seed%3 == 0 {
			two = drawn(r, r.Intn(12))
		} else if n := one.box.Len(); n > 0 { // some first entries are the same ones
			two = given(t, one.said.entries[:r.Intn(n)]...)
		}
		for range r.Intn(6) {
			two.add(t, "on", r.entry(two.lastTime()))
		}
		fork := one.box.Fork(two.box)
		for n := range min(one.box.Len(), two.box.Len()) + 1 {
			a, _ := one.box.Link(n)
			b, _ := two.box.Link(n)
			x, _ := one.box.Entries(0, n)
			y, _ := two.box.Entries(0, n)
			if alike := slices.EqualFunc(x, y, same); (a == b) != alike || alike != (n <= fork) {
				t.Fatalf("seed %d, behind %d entries: links the same %v, entries alike %v, Fork %d", seed, n, a == b, alike, fork)
			}
		}
		if fork > 0 && fork < min(one.box.Len(), two.box.Len()) {
			parted++
		}
	}
	if parted < steps(300)/20 {
		t.Errorf("only %d parted on the way", parted)
	}
}

// What is asked in between, and copies that are made, turn no answer.
func TestR5_SameCallsSameAnswers(t *testing.T) {
	r := newScript(5)
	one, two := newBoth(), New()
	for i := range steps(500) {
		e := r.entry(one.lastTime())
		n, fault := two.Add(e)
		wantedN, wanted := one.said.add(e)
		if n != wantedN || fault != wanted {
			t.Fatalf("step %d: %d, %d, not %d, %d", i, n, int(fault), wantedN, int(wanted))
		}
		one.box.Add(e)
		one.box.Copy().Add(e)
		scribbled(one, one.box.Len()/2, one.box.Len())
		if one.box.Fork(two) != two.Len() || one.box.Len() != two.Len() {
			t.Fatalf("step %d: Fork is %d of %d", i, one.box.Fork(two), two.Len())
		}
	}
	one.wantTold(t, "asked all the way")
	both{two, one.said}.wantTold(t, "never asked")
}

// entryOf makes an entry of some bytes: which kind, how far its Time is from the last one's, what stands in a field.
func entryOf(x []byte, last int) api.Entry {
	e := api.Entry{Kind: int(x[0]>>2) % 4, Time: last + int(x[1]>>6) - 1, Sender: someone(x[1] & 1)}
	switch {
	case x[1]&63 == 63:
		e.Time = late + int(x[2]%3) - 1
	case x[0] >= 240:
		e = wrong()[int(x[1])%len(wrong())].entry
	case e.Kind == 1:
		e.Token, e.Amount[x[2]%4], e.Gas = int(x[2]>>1)%66-1, uint64(x[3]), int(x[3]>>4)
	case e.Kind == 2:
		e.Body = long(int(x[2]) * (1 + int(x[3]&3)*6))
	}
	return e
}

func FuzzAgainstTheWords(f *testing.F) {
	f.Add([]byte("\x08\x40\x03\x00\x08\x40\x03\x00\x0a\x00\x01\x02\x04\x80\x02\x05"))
	f.Add([]byte("\x04\x81\x05\x07\x01\x00\x00\x00\x04\x41\x05\x07\x08\x00\x09\x00\x02\x01\x00\x00\x03\x00\x02\x01"))
	f.Add([]byte("\xf0\x05\x00\x00\x08\x7f\x02\x00\x08\x7f\x01\x00\x08\x40\xff\x03\x01\x00\x00\x00\x08\x40\xff\x03\x02\x00\x01\x00"))
	f.Fuzz(func(t *testing.T, script []byte) {
		boxes := []both{newBoth()}
		for i := 0; len(script) >= 4 && i < 120; i, script = i+1, script[4:] {
			x := script[:4]
			b, other := boxes[int(x[1])%len(boxes)], boxes[int(x[2])%len(boxes)]
			switch x[0] & 3 {
			case 0:
				b = boxes[int(x[3]>>5)%len(boxes)]
				b.add(t, fmt.Sprint("step ", i), entryOf(x, b.lastTime()))
			case 1:
				if len(boxes) < 8 {
					boxes = append(boxes, b.copied())
				}
			case 2:
				wantFork(t, fmt.Sprint("step ", i), b, other, b.said.fork(other.said))
			case 3: // what stands in one, from a link of it to a link of the other
				from, to := int(x[3]&15)%len(b.said.links), int(x[3]>>4)%len(other.said.links)
				list, _ := b.said.list(min(from, b.box.Len()), b.box.Len())
				if got, wanted := Check(b.said.links[from], other.said.links[to], list...), sayCheck(b.said.links[from], other.said.links[to], list); got != wanted {
					t.Errorf("step %d: Check is %d, not %d", i, int(got), int(wanted))
				}
			}
		}
		for i, b := range boxes {
			b.wantTold(t, fmt.Sprint("at last, box ", i))
		}
	})
}

// manyEntries is a box with so many.
func manyEntries(n int) *Box {
	b := New()
	for i := range n {
		b.Add(letterAt(i, 5, 1, 1))
	}
	return b
}

func BenchmarkAdd(b *testing.B) {
	x := New()
	for b.Loop() {
		x.Add(letterAt(5, 5, 1, 1))
	}
}

func BenchmarkCopyAndFork(b *testing.B) {
	for _, n := range []int{10, 1000, 100000} {
		x := manyEntries(n)
		b.Run(fmt.Sprint("copy of ", n), func(b *testing.B) {
			for b.Loop() {
				x.Copy()
			}
		})
		b.Run(fmt.Sprint("fork of ", n), func(b *testing.B) {
			y := x.Copy()
			for b.Loop() {
				x.Fork(y)
			}
		})
	}
}
