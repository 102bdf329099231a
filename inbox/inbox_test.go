package inbox

import (
	"crypto/sha256"
	"fmt"
	"math"
	"slices"
	"testing"

	"causeway/api"
)

const (
	all  = 1<<64 - 1
	full = 1 << 40
	late = 1 << 62
)

func someone(n byte) api.Address { return api.Address{0: n, 7: n ^ 255, 19: n} }

func letterAt(time int, body ...byte) api.Entry { return api.Entry{Kind: 2, Time: time, Body: body} }

func depositAt(time int) api.Entry {
	return api.Entry{Kind: 1, Sender: someone(1), Time: time, Token: 5, To: someone(2), Amount: api.Wide{7, 8, 9, 10}, Gas: 100}
}

func callAt(time int) api.Entry {
	return api.Entry{Kind: 2, Sender: someone(3), Time: time, Body: []byte{12, 1, 2, 1, 3, 5, 1, 1, 1, 2, 8, 0}}
}

// long is so many bytes that differ from their neighbours.
func long(n int) []byte {
	b := make([]byte, n)
	for i := range b {
		b[i] = byte(i*7 + i>>8)
	}
	return b
}

// with is an entry with something turned in it.
func with(e api.Entry, turn func(*api.Entry)) api.Entry {
	e = own(e)
	turn(&e)
	return e
}

// named is an entry with what is to be said of it.
type named struct {
	what  string
	entry api.Entry
}

// right are entries that may be, at all edges of their fields.
func right() []named {
	l := []named{
		{"a bare call", api.Entry{Kind: 2}},
		{"a bare deposit", api.Entry{Kind: 1, Amount: api.Wide{1}}},
		{"a deposit", depositAt(70000)},
		{"a call", callAt(70000)},
		{"the greatest deposit", api.Entry{Kind: 1, Sender: someone(255), Time: late, Token: 63, To: someone(254), Amount: api.Wide{all, all, all, all}, Gas: full}},
		{"a deposit of a high part", with(depositAt(1), func(e *api.Entry) { e.Amount = api.Wide{0, 0, 0, 1} })},
		{"a deposit without gas", with(depositAt(1), func(e *api.Entry) { e.Gas = 0 })},
		{"a deposit of token 0", with(depositAt(1), func(e *api.Entry) { e.Token = 0 })},
		{"an empty Body that is there", api.Entry{Kind: 2, Body: []byte{}}},
	}
	for _, time := range []int{0, 1, 255, 256, late - 1, late} {
		l = append(l, named{fmt.Sprint("a deposit at ", time), depositAt(time)}, named{fmt.Sprint("a call at ", time), callAt(time)})
	}
	for _, n := range []int{0, 1, 2, 7, 8, 9, 31, 32, 54, 55, 56, 63, 64, 119, 120, 255, 256, 1000, 4095, 4096} {
		l = append(l, named{fmt.Sprint("a call of ", n, " bytes"), letterAt(5, long(n)...)})
	}
	return l
}

// wrong are entries that may not be, by one of their fields each.
func wrong() []named {
	var l []named
	put := func(what string, e api.Entry, turn func(*api.Entry)) {
		l = append(l, named{what, with(e, turn)})
	}
	for _, of := range []api.Entry{depositAt(70000), callAt(70000), {}} {
		for _, kind := range []int{0, -1, -2, 3, 4, 257, 258, math.MinInt, math.MaxInt} {
			put(fmt.Sprint("kind ", kind, " in place of ", of.Kind), of, func(e *api.Entry) { e.Kind = kind })
		}
	}
	put("a call that is to be a deposit", callAt(5), func(e *api.Entry) { e.Kind = 1 })
	put("a deposit that is to be a call", depositAt(5), func(e *api.Entry) { e.Kind = 2 })
	for _, of := range []api.Entry{depositAt(0), callAt(0)} {
		for _, time := range []int{-1, math.MinInt, late + 1, math.MaxInt} {
			put(fmt.Sprint("kind ", of.Kind, " at ", time), of, func(e *api.Entry) { e.Time = time })
		}
	}
	for _, token := range []int{-1, 64, 128, 256, math.MinInt, math.MaxInt} {
		put(fmt.Sprint("a deposit of token ", token), depositAt(5), func(e *api.Entry) { e.Token = token })
	}
	for _, gas := range []int{-1, full + 1, math.MinInt, math.MaxInt} {
		put(fmt.Sprint("a deposit of gas ", gas), depositAt(5), func(e *api.Entry) { e.Gas = gas })
	}
	put("a deposit of nought", depositAt(5), func(e *api.Entry) { e.Amount = api.Wide{} })
	put("a deposit with a Body", depositAt(5), func(e *api.Entry) { e.Body = []byte{0} })
	for _, token := range []int{-1, 1, 63, 64} {
		put(fmt.Sprint("a call with token ", token), callAt(5), func(e *api.Entry) { e.Token = token })
	}
	put("a call with a To", callAt(5), func(e *api.Entry) { e.To[19] = 1 })
	put("a call with an amount", callAt(5), func(e *api.Entry) { e.Amount[3] = 1 })
	put("a call with gas", callAt(5), func(e *api.Entry) { e.Gas = 1 })
	put("a call of 4097 bytes", callAt(5), func(e *api.Entry) { e.Body = long(4097) })
	put("a call of 70000 bytes", callAt(5), func(e *api.Entry) { e.Body = long(70000) })
	return l
}

// unlike are entries that may be and differ from one in one field, or in one sign of the Body, alone. (A later Time comes last.)
func unlike(of api.Entry) []named {
	var l []named
	put := func(what string, turn func(*api.Entry)) {
		if e := with(of, turn); sayMayBe(e) && !same(e, of) {
			l = append(l, named{what, e})
		}
	}
	for _, i := range []int{0, 10, 19} {
		put(fmt.Sprint("Sender, byte ", i), func(e *api.Entry) { e.Sender[i] ^= 1 })
		put(fmt.Sprint("To, byte ", i), func(e *api.Entry) { e.To[i] ^= 128 })
	}
	for i := range 4 {
		put(fmt.Sprint("Amount, part ", i), func(e *api.Entry) { e.Amount[i] ^= 1 << 63 })
	}
	put("Token", func(e *api.Entry) { e.Token ^= 1 })
	put("Gas", func(e *api.Entry) { e.Gas ^= 256 })
	for _, i := range []int{0, len(of.Body) / 2, len(of.Body) - 1} {
		if i >= 0 && i < len(of.Body) {
			put(fmt.Sprint("Body, byte ", i), func(e *api.Entry) { e.Body[i] ^= 1 })
			put(fmt.Sprint("Body, without byte ", i), func(e *api.Entry) { e.Body = slices.Delete(e.Body, i, i+1) })
		}
	}
	put("Body, one more byte", func(e *api.Entry) { e.Body = append(e.Body, 0) })
	put("Body, one more byte ahead", func(e *api.Entry) { e.Body = append([]byte{0}, e.Body...) })
	put("no Body", func(e *api.Entry) { e.Body = nil })
	put("Kind", func(e *api.Entry) { // the fields that only one kind has go along
		*e = api.Entry{Kind: 3 - e.Kind, Sender: e.Sender, Time: e.Time}
		e.Amount[0] = uint64(e.Kind) & 1
	})
	put("Time", func(e *api.Entry) { e.Time++ })
	return l
}

// both is a box, and what it is by the words.
type both struct {
	box  *Box
	said *said
}

func newBoth() both { return both{New(), newSaid()} }

func (b both) copied() both { return both{b.box.Copy(), b.said.copied()} }

// wantTold holds all that the box tells against the words.
func (b both) wantTold(t testing.TB, what string) {
	t.Helper()
	if text := b.said.differ(b.box); text != "" {
		t.Errorf("%s: %s", what, text)
	}
}

// add adds an entry to both: they must answer the same, and tell the same behind it.
func (b both) add(t testing.TB, what string, e api.Entry) api.Errno {
	t.Helper()
	ahead, handed := b.said.copied(), own(e)
	n, got := b.box.Add(e)
	wantedN, wanted := b.said.add(handed)
	if n != wantedN || got != wanted {
		t.Errorf("%s, Add(%s): %d, %d, not %d, %d", what, brief(e), n, int(got), wantedN, int(wanted))
	}
	if !same(e, handed) {
		t.Errorf("%s, Add(%s) has turned what was handed in", what, brief(handed))
	}
	b.wantTold(t, fmt.Sprint(what, ", behind Add"))
	if got != 0 {
		if text := ahead.differ(b.box); text != "" {
			t.Errorf("%s, Add(%s) was refused, and yet: %s", what, brief(e), text)
		}
	}
	return got
}

// want adds an entry, which must be answered just so: by its number, or by an error.
func (b both) want(t testing.TB, what string, e api.Entry, number, fault int) {
	t.Helper()
	n := b.box.Len()
	if got := b.add(t, what, e); int(got) != fault || fault == 0 && n != number {
		t.Errorf("%s, Add(%s): %d, %d, not %d, %d", what, brief(e), n, int(got), number, fault)
	}
}

// given is a box with some entries.
func given(t testing.TB, entries ...api.Entry) both {
	t.Helper()
	b := newBoth()
	for i, e := range entries {
		b.want(t, "ahead", e, i, 0)
	}
	return b
}

// ordinary are entries of both kinds, with equal and with rising Times.
func ordinary() []api.Entry {
	return []api.Entry{letterAt(0), depositAt(5), callAt(5), letterAt(5, 5, 1, 1), letterAt(5, 5, 1, 1), depositAt(6), letterAt(70000, long(300)...), callAt(late), depositAt(late)}
}

func wantLink(t testing.TB, b *Box, count int, wanted api.Digest, fault int) {
	t.Helper()
	if got, e := b.Link(count); got != wanted || int(e) != fault {
		t.Errorf("Link(%d): %x, %d, not %x, %d", count, got, int(e), wanted, fault)
	}
}

func wantEntry(t testing.TB, b *Box, number int, wanted api.Entry, fault int) {
	t.Helper()
	if got, e := b.Entry(number); !same(got, wanted) || int(e) != fault {
		t.Errorf("Entry(%d): %s, %d, not %s, %d", number, brief(got), int(e), brief(wanted), fault)
	}
}

func wantEntries(t testing.TB, b *Box, from, to, fault int, wanted ...api.Entry) {
	t.Helper()
	if got, e := b.Entries(from, to); !slices.EqualFunc(got, wanted, same) || int(e) != fault {
		t.Errorf("Entries(%d, %d): %d of them, %d, not %d of them, %d, or other ones", from, to, len(got), int(e), len(wanted), fault)
	}
}

// wantCheck holds Check against an answer, and against the words.
func wantCheck(t testing.TB, what string, from, to api.Digest, fault int, entries ...api.Entry) {
	t.Helper()
	got := Check(from, to, entries...)
	if int(got) != fault {
		t.Errorf("%s: Check is %d, not %d", what, int(got), fault)
	}
	if wanted := sayCheck(from, to, entries); got != wanted {
		t.Errorf("%s: Check is %d, by the words %d", what, int(got), int(wanted))
	}
}

// wantNext holds Next against an answer, and against the words.
func wantNext(t testing.TB, what string, link api.Digest, e api.Entry, wanted api.Digest, fault int) {
	t.Helper()
	handed := own(e)
	got, errno := Next(link, e)
	if got != wanted || int(errno) != fault {
		t.Errorf("%s: Next is %x, %d, not %x, %d", what, got, int(errno), wanted, fault)
	}
	if words, wordsE := sayNext(link, e); got != words || errno != wordsE {
		t.Errorf("%s: Next is %x, %d, by the words %x, %d", what, got, int(errno), words, int(wordsE))
	}
	if !same(e, handed) {
		t.Errorf("%s: Next has turned what was handed in", what)
	}
}

func TestErrorsNumbers(t *testing.T) {
	for e, n := range map[api.Errno]int{
		api.OK: 0, api.ErrArg: 1,
		api.ErrInboxEntry: 150, api.ErrInboxIndex: 151, api.ErrInboxFull: 152, api.ErrInboxTime: 153, api.ErrInboxLink: 154,
	} {
		if int(e) != n {
			t.Errorf("an error has the number %d, not %d", int(e), n)
		}
	}
	if api.MaxCount != full || api.MaxTime != late || api.MaxBody != 4096 {
		t.Errorf("MaxCount is %d, MaxTime is %d, MaxBody is %d", api.MaxCount, api.MaxTime, api.MaxBody)
	}
}

func TestR1_Nil(t *testing.T) {
	var b *Box
	for _, e := range []api.Entry{{}, letterAt(5), {Kind: 3}} {
		if n, fault := b.Add(e); n != 0 || fault != api.ErrArg {
			t.Errorf("Add of a nil box: %d, %d", n, int(fault))
		}
	}
	for _, i := range edges(0) { // ahead of all else
		wantLink(t, b, i, api.Digest{}, 1)
		wantEntry(t, b, i, api.Entry{}, 1)
		wantEntries(t, b, i, 0, 1)
		wantEntries(t, b, 0, i, 1)
	}
	if b.Len() != 0 || b.Copy() != nil || b.Fork(nil) != 0 || b.Fork(given(t, letterAt(5)).box) != 0 {
		t.Error("a nil box tells something")
	}
}

// The chapter's examples, row by row.
func TestExamples(t *testing.T) {
	a, b, c, odd := letterAt(5, 5, 1, 1), letterAt(5), letterAt(4), api.Entry{Kind: 3}
	var none api.Digest

	text := append(make([]byte, 32), 2)
	text = append(append(text, make([]byte, 20)...), 1, 5, 1, 3, 5, 1, 1)
	one := api.Digest(sha256.Sum256(text))
	wantNext(t, "row 1", none, a, one, 0)

	for _, any := range []api.Digest{none, one, {5: 9}} {
		wantNext(t, "row 2", any, odd, none, 150)
	}

	x := newBoth()
	if x.box.Len() != 0 {
		t.Error("row 3: Len")
	}
	wantLink(t, x.box, 0, none, 0)
	wantLink(t, x.box, 1, none, 151)
	wantEntry(t, x.box, 0, api.Entry{}, 151)
	wantEntries(t, x.box, 0, 0, 0)
	wantEntries(t, x.box, 0, 1, 151)

	x.want(t, "row 4", a, 0, 0)
	x.want(t, "row 4", c, 0, 153)
	x.want(t, "row 4", b, 1, 0)

	two := api.Digest(sha256.Sum256(append(append(one[:], 2), append(make([]byte, 20), 1, 5, 0)...)))
	wantLink(t, x.box, 1, one, 0)
	wantLink(t, x.box, 2, two, 0)
	wantNext(t, "row 5", one, b, two, 0)

	wantEntries(t, x.box, 1, 2, 0, b)
	wantEntries(t, x.box, 2, 2, 0)
	wantEntries(t, x.box, 2, 1, 151)
	wantEntries(t, x.box, -1, 1, 151)

	wantCheck(t, "row 7", none, two, 0, a, b)
	wantCheck(t, "row 7", none, two, 154, b, a)
	wantCheck(t, "row 7", one, two, 0, b)
	wantCheck(t, "row 7", two, two, 0)

	wantCheck(t, "row 8", none, none, 153, a, c, odd)
	wantCheck(t, "row 8", none, none, 150, odd, a, c)

	y := x.copied()
	y.want(t, "row 9", b, 2, 0)
	wantFork(t, "row 9", x, y, 2)
	x.want(t, "row 9", a, 2, 0)
	wantFork(t, "row 9", x, y, 2)
}

// links are those ahead of which an entry could stand.
func links() []api.Digest {
	l := []api.Digest{{}, {0: 1}, {31: 1}, sha256.Sum256([]byte("any"))}
	var ones api.Digest
	for i := range ones {
		ones[i] = 255
	}
	return append(l, ones)
}

func TestP15_1_EntriesThatMayBe(t *testing.T) {
	for _, n := range right() {
		for _, link := range links() {
			wanted := api.Digest(sha256.Sum256(slices.Concat(link[:], sayText(n.entry))))
			wantNext(t, n.what, link, n.entry, wanted, 0)
		}
	}
}

func TestP15_1_EntriesThatMayNotBe(t *testing.T) {
	for _, n := range wrong() {
		for _, link := range links() {
			wantNext(t, n.what, link, n.entry, api.Digest{}, 150)
		}
	}
}

// Every link, and every field of an entry, tells in the link behind it.
func TestP15_1_EverythingCounts(t *testing.T) {
	seen := map[api.Digest]string{}
	put := func(what string, link api.Digest, e api.Entry) {
		next, fault := Next(link, e)
		if was, there := seen[next]; there || fault != api.OK {
			t.Errorf("%s: %d, the link of %s", what, int(fault), was)
		}
		seen[next] = what
	}
	for i, e := range []api.Entry{depositAt(5), callAt(5), letterAt(5, long(4095)...)} {
		for j, link := range links() {
			put(fmt.Sprint("entry ", i, ", link ", j), link, e)
			for _, n := range unlike(e) {
				put(fmt.Sprint("entry ", i, ", link ", j, ", ", n.what), link, n.entry)
			}
		}
	}
}

func TestP15_2_NoEntries(t *testing.T) {
	for i, from := range links() {
		for j, to := range links() {
			fault := 154
			if i == j {
				fault = 0
			}
			wantCheck(t, fmt.Sprint("links ", i, " and ", j), from, to, fault)
			wantCheck(t, fmt.Sprint("links ", i, " and ", j), from, to, fault, []api.Entry{}...)
		}
	}
}

func TestP15_2_OneEntry(t *testing.T) {
	for _, n := range right() {
		for _, link := range links() {
			to, _ := sayNext(link, n.entry)
			wantCheck(t, n.what, link, to, 0, n.entry)
			wantCheck(t, n.what+", back", to, link, 154, n.entry)
			wantCheck(t, n.what+", where it begins", link, link, 154, n.entry)
			wantCheck(t, n.what+", where it ends", to, to, 154, n.entry)
			to[31] ^= 1
			wantCheck(t, n.what+", another end", link, to, 154, n.entry)
			to[31], link[0] = to[31]^1, link[0]^128
			wantCheck(t, n.what+", another beginning", link, to, 154, n.entry)
		}
	}
	for _, n := range wrong() {
		for _, link := range links() {
			wantCheck(t, n.what, link, link, 150, n.entry)
			wantCheck(t, n.what, link, api.Digest{9}, 150, n.entry)
		}
	}
}

// Rows from any link of a box to any other lead there if they are just what stands between, else they do not.
func TestP15_2_ManyEntries(t *testing.T) {
	l := ordinary()
	b := given(t, l...)
	for i, first := range b.said.links {
		for j, last := range b.said.links {
			for from := range l {
				for to := from; to <= len(l); to++ {
					fault := 154
					if i <= j && slices.EqualFunc(l[from:to], l[i:j], same) {
						fault = 0
					}
					wantCheck(t, fmt.Sprint("entries ", from, " to ", to, ", links ", i, " to ", j), first, last, fault, l[from:to]...)
				}
			}
		}
	}
}

// putAt, leftOut, turned and twice are lists of their own in which something is done to one place.
func putAt(l []api.Entry, i int, e api.Entry) []api.Entry {
	l = slices.Clone(l)
	l[i] = e
	return l
}

func leftOut(l []api.Entry, i int) []api.Entry { return slices.Delete(slices.Clone(l), i, i+1) }

func twice(l []api.Entry, i int) []api.Entry { return slices.Insert(slices.Clone(l), i, l[i]) }

func turned(l []api.Entry, i, j int) []api.Entry {
	l = slices.Clone(l)
	l[i], l[j] = l[j], l[i]
	return l
}

func backwards(l []api.Entry) []api.Entry {
	l = slices.Clone(l)
	slices.Reverse(l)
	return l
}

func TestP15_2_RowsThatWereTurned(t *testing.T) {
	l := []api.Entry{letterAt(5), depositAt(5), callAt(5), letterAt(5, 1), letterAt(5, long(500)...), depositAt(5)}
	l[5].Token = 6
	b := given(t, l...)
	from, to := b.said.links[0], b.said.links[6]
	wantCheck(t, "as they are", from, to, 0, l...)
	for i := range l {
		for _, n := range unlike(l[i]) {
			fault := 154
			if n.what == "Time" && i < len(l)-1 {
				fault = 153 // the next one's is below it then
			}
			wantCheck(t, fmt.Sprint("entry ", i, ", ", n.what), from, to, fault, putAt(l, i, n.entry)...)
		}
		wantCheck(t, fmt.Sprint("without entry ", i), from, to, 154, leftOut(l, i)...)
		wantCheck(t, fmt.Sprint("entry ", i, " twice"), from, to, 154, twice(l, i)...)
		for j := range i {
			wantCheck(t, fmt.Sprint("entries ", i, " and ", j, " turned about"), from, to, 154, turned(l, i, j)...)
		}
		for _, n := range wrong() {
			wantCheck(t, fmt.Sprint("entry ", i, ", ", n.what), from, to, 150, putAt(l, i, n.entry)...)
		}
	}
	wantCheck(t, "back to front", from, to, 154, backwards(l)...)
}

func TestP15_2_TheFirstFaultTells(t *testing.T) {
	odd, low, good := api.Entry{Kind: 3, Time: 5}, letterAt(4), letterAt(5)
	early := letterAt(-1) // may not be, and is below the one ahead
	for _, row := range []struct {
		what  string
		fault int
		l     []api.Entry
	}{
		{"one that may not be, then a low one", 150, []api.Entry{good, odd, low}},
		{"a low one, then one that may not be", 153, []api.Entry{good, low, odd}},
		{"a low one, then good ones, then one that may not be", 153, []api.Entry{good, low, good, good, odd}},
		{"one that is both", 150, []api.Entry{good, early}},
		{"a low one, then one that is both", 153, []api.Entry{good, low, early}},
		{"low and of another kind", 150, []api.Entry{good, {Kind: 0, Time: 4}}},
		{"low, of a deposit of nought", 150, []api.Entry{good, {Kind: 1, Time: 4}}},
		{"the first of all", 150, []api.Entry{odd, good}},
		{"the first of all, below nought", 150, []api.Entry{early, good}},
		{"the last of all", 150, []api.Entry{good, good, odd}},
		{"the last one is low", 153, []api.Entry{good, good, low}},
		{"one up and one down", 153, []api.Entry{low, good, low}},
		{"low ones that rise again", 153, []api.Entry{letterAt(9), letterAt(7), letterAt(8)}},
		{"below the one ahead, but not below the first", 153, []api.Entry{letterAt(1), letterAt(9), letterAt(8)}},
		{"from the greatest Time", 153, []api.Entry{letterAt(late), letterAt(late - 1)}},
		{"beyond the greatest Time", 150, []api.Entry{letterAt(late), letterAt(late + 1)}},
	} {
		for _, from := range links() {
			for _, to := range links() { // whatever the links are
				wantCheck(t, row.what, from, to, row.fault, row.l...)
			}
		}
	}
}

// Of the first one's Time nothing is asked, and equal Times may be.
func TestP15_2_Times(t *testing.T) {
	b := given(t, letterAt(100), letterAt(100), depositAt(100), letterAt(101))
	for i, time := range []int{0, 99, 100, 101, late} {
		for _, link := range b.said.links {
			e := letterAt(time, byte(i))
			to, _ := sayNext(link, e)
			wantCheck(t, fmt.Sprint("one at ", time), link, to, 0, e)
			further, _ := sayNext(to, e)
			wantCheck(t, fmt.Sprint("two at ", time), link, further, 0, e, e)
		}
	}
	wantCheck(t, "equal ones and a rise", api.Digest{}, b.said.links[4], 0, b.said.entries...)
}

func TestP15_3_New(t *testing.T) {
	a := New()
	both{a, newSaid()}.wantTold(t, "a new one")
	given(t, ordinary()...)
	both{a, newSaid()}.wantTold(t, "a new one beside another one")
	both{new(Box), newSaid()}.wantTold(t, "a zero box")
}

func TestP15_3_EntriesThatMayBe(t *testing.T) {
	for _, n := range right() {
		newBoth().want(t, n.what, n.entry, 0, 0)
		b := given(t, letterAt(0), letterAt(0))
		b.want(t, n.what, n.entry, 2, 0)
		b.want(t, n.what+", twice", n.entry, 3, 0)
	}
}

func TestP15_3_EntriesThatMayNotBe(t *testing.T) {
	empty, some, at := newBoth(), given(t, ordinary()...), given(t, depositAt(6))
	for _, n := range wrong() {
		empty.want(t, n.what, n.entry, 0, 150)
		some.want(t, n.what+", and low", n.entry, 0, 150)
		at.want(t, n.what, n.entry, 0, 150)
	}
}

func TestP15_3_Times(t *testing.T) {
	for _, last := range []int{0, 1, 5, 256, 1 << 32, late - 1, late} {
		for _, make := range []func(int) api.Entry{depositAt, callAt} {
			b := given(t, letterAt(0), make(last))
			if last > 0 {
				b.want(t, "one below", letterAt(last-1), 0, 153)
				b.want(t, "one below", depositAt(last-1), 0, 153)
				b.want(t, "far below", make(0), 0, 153)
			} else {
				b.want(t, "one below nought", letterAt(-1), 0, 150)
			}
			b.want(t, "below nought", letterAt(math.MinInt), 0, 150)
			b.want(t, "both faults", api.Entry{Kind: 3, Time: last - 1}, 0, 150)
			b.want(t, "both faults, another one", api.Entry{Kind: 1, Time: last - 1}, 0, 150)
			b.want(t, "the same", letterAt(last), 2, 0)
			b.want(t, "the same", depositAt(last), 3, 0)
			if last < late {
				b.want(t, "one above", callAt(last+1), 4, 0)
				b.want(t, "and back", callAt(last), 0, 153)
			} else {
				b.want(t, "beyond the greatest", callAt(last+1), 0, 150)
			}
		}
	}
}

// It is the last entry's Time that counts, and of an empty box none.
func TestP15_3_TheLastOnesTime(t *testing.T) {
	b := newBoth()
	b.want(t, "the first one", letterAt(5), 0, 0)
	b.want(t, "refused", letterAt(3), 0, 153)
	b.want(t, "refused once more", letterAt(4), 0, 153)
	b.want(t, "later", letterAt(9), 1, 0)
	b.want(t, "above the first one's only", letterAt(8), 0, 153)
	b.want(t, "an entry that may not be leaves no Time", api.Entry{Kind: 3, Time: 50}, 0, 150)
	b.want(t, "so this one may be", letterAt(9), 2, 0)
}

// A box of 2^40 entries has no place anywhere: what Add asks is asked here of a row with such a number.
func TestP15_3_Full(t *testing.T) {
	last := row{entry: letterAt(5), link: api.Digest{7}}
	link, _ := sayNext(last.link, letterAt(5, 1))
	for _, r := range []struct {
		number int
		e      api.Entry
		fault  int
	}{
		{0, letterAt(5, 1), 0},
		{full - 1, letterAt(5, 1), 0},
		{full, letterAt(5, 1), 152},
		{full + 1, letterAt(5, 1), 152},
		{math.MaxInt, letterAt(5, 1), 152},
		{full - 1, letterAt(4), 153},
		{full, letterAt(4), 153},
		{full, api.Entry{Kind: 3, Time: 5}, 150},
		{full, api.Entry{Kind: 3, Time: 4}, 150},
	} {
		next, e := last.numbered(r.number, r.e)
		if int(e) != r.fault {
			t.Errorf("number %d: %d, not %d", r.number, int(e), r.fault)
		}
		if r.fault == 0 && (next.link != link || !same(next.entry, r.e)) || r.fault != 0 && (next.link != api.Digest{} || !same(next.entry, api.Entry{})) {
			t.Errorf("number %d: %x, %s", r.number, next.link, brief(next.entry))
		}
	}
}

// The numbers that are asked for stand one by one in the answers, at -1, 0, Len - 1, Len, Len + 1 and at the least and the greatest there is.
func TestP15_4_Edges(t *testing.T) {
	l := ordinary()
	b := newBoth()
	for n := 0; ; n++ {
		x := b.box
		if x.Len() != n {
			t.Fatalf("Len is %d, not %d", x.Len(), n)
		}
		for _, i := range []int{math.MinInt, -1, n + 1, math.MaxInt} {
			wantLink(t, x, i, api.Digest{}, 151)
			wantEntry(t, x, i, api.Entry{}, 151)
			wantEntries(t, x, i, i, 151)
			wantEntries(t, x, 0, i, 151)
			wantEntries(t, x, i, n, 151)
		}
		wantLink(t, x, 0, api.Digest{}, 0)
		wantLink(t, x, n, b.said.links[n], 0)
		wantEntry(t, x, n, api.Entry{}, 151)
		wantEntries(t, x, 0, n, 0, l[:n]...)
		wantEntries(t, x, n, n, 0)
		if n > 0 {
			wantLink(t, x, n-1, b.said.links[n-1], 0)
			wantEntry(t, x, 0, l[0], 0)
			wantEntry(t, x, n-1, l[n-1], 0)
			wantEntries(t, x, n-1, n, 0, l[n-1])
			wantEntries(t, x, n, n-1, 151)
			wantEntries(t, x, 0, n-1, 0, l[:n-1]...)
			wantEntries(t, x, 1, 0, 151)
		}
		if n == len(l) {
			break
		}
		b.want(t, "on", l[n], n, 0)
	}
}

func TestP15_4_EverySpan(t *testing.T) {
	b := given(t, ordinary()...)
	for from := -2; from < 12; from++ {
		for to := -2; to < 12; to++ {
			if 0 <= from && from <= to && to <= 9 {
				wantEntries(t, b.box, from, to, 0, ordinary()[from:to]...)
			} else {
				wantEntries(t, b.box, from, to, 151)
			}
		}
	}
}

// Links stay what they were while a box grows.
func TestP15_4_LinksStay(t *testing.T) {
	b := newBoth()
	var was []api.Digest
	for n := range 300 {
		link, e := b.box.Link(n)
		if e != api.OK {
			t.Fatalf("Link(%d): %d", n, int(e))
		}
		was = append(was, link)
		if k, e := b.box.Add(letterAt(n/3, byte(n))); k != n || e != api.OK {
			t.Fatalf("Add: %d, %d", k, int(e))
		}
		for i, link := range was {
			wantLink(t, b.box, i, link, 0)
		}
	}
}
