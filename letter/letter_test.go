package letter

import (
	"bytes"
	"fmt"
	"math"
	"reflect"
	"slices"
	"testing"

	"causeway/api"
)

const all = math.MaxUint64

var (
	noughts  api.Address
	greatest = api.Wide{all, all, all, all}
)

func addressOf(b byte) api.Address { return api.Address(many(b, 20)) }

// many is so many bytes of one kind.
func many(b byte, n int) []byte { return bytes.Repeat([]byte{b}, n) }

func retry(n int) api.Letter            { return api.Letter{Kind: 5, Number: n} }
func pause(t int) api.Letter            { return api.Letter{Kind: 8, Token: t} }
func callOf(g int) api.Letter           { return api.Letter{Kind: 11, Number: 1, Gas: g} }
func codeOf(n int) api.Letter           { return api.Letter{Kind: 10, Code: many(7, n)} }
func manyOf(l ...api.Letter) api.Letter { return api.Letter{Kind: 12, Parts: l} }

// with is the same letter, or entry, with another value in a field.
func with[T any](x T, name string, value any) T {
	f := reflect.ValueOf(&x).Elem().FieldByName(name)
	if value == nil {
		f.SetZero()
	} else {
		f.Set(reflect.ValueOf(value))
	}
	return x
}

// ordinary are letters of each kind, with something in every field that it uses.
func ordinary() []api.Letter {
	move := api.Letter{Kind: 1, Token: 3, To: addressOf(7), Amount: api.Wide{256}}
	pull := with(with(move, "Kind", 4), "From", addressOf(9))
	call := api.Letter{Kind: 11, Token: 2, Amount: api.Wide{5, 6}, Number: 300, Gas: 700, Args: []api.Wide{{7}, {}, greatest}}
	code := api.Letter{Kind: 10, Code: []byte{1, 0, 2}}
	return []api.Letter{
		move, with(move, "Kind", 2), with(move, "Kind", 3), pull, retry(5), with(retry(70000), "Kind", 6),
		with(pause(4), "Kind", 7), pause(5), with(pause(6), "Kind", 9), code, call,
		manyOf(move, call, code, retry(1), pull),
	}
}

// edge is a value that a field may be, or not.
type edge struct {
	value any
	may   bool
}

// edges are of each field of a letter the least and the greatest values, those beyond them, and some others.
func edges() map[string][]edge {
	addresses := []edge{{noughts, true}, {api.Address{1}, true}, {api.Address{19: 1}, true}, {addressOf(255), true}}
	return map[string][]edge{
		"Token":  {{0, true}, {1, true}, {62, true}, {63, true}, {64, false}, {255, false}, {256, false}, {-1, false}, {math.MinInt, false}, {math.MaxInt, false}},
		"From":   addresses,
		"To":     addresses,
		"Amount": {{api.Wide{}, true}, {api.Wide{1}, true}, {api.Wide{0, 1}, true}, {api.Wide{3: 1}, true}, {greatest, true}},
		"Number": {{0, false}, {1, true}, {2, true}, {1<<40 - 1, true}, {1 << 40, true}, {1<<40 + 1, false}, {-1, false}, {math.MinInt, false}, {math.MaxInt, false}},
		"Gas":    {{0, false}, {1, true}, {2, true}, {9999, true}, {10000, true}, {10001, false}, {-1, false}, {math.MinInt, false}, {math.MaxInt, false}},
		"Args": {{[]api.Wide(nil), true}, {[]api.Wide{}, true}, {make([]api.Wide, 1), true}, {slices.Repeat([]api.Wide{greatest}, 8), true},
			{make([]api.Wide, 8), true}, {make([]api.Wide, 9), false}, {make([]api.Wide, 300), false}},
		"Code":  {{[]byte(nil), false}, {[]byte{}, false}, {[]byte{0}, true}, {many(0, 1023), true}, {many(255, 1024), true}, {many(1, 1025), false}, {many(1, 5000), false}},
		"Parts": partsEdges(),
	}
}

func partsEdges() []edge {
	l := []edge{{[]api.Letter(nil), false}, {[]api.Letter{}, false}}
	for _, n := range []int{1, 2, 7, 8} {
		l = append(l, edge{slices.Repeat([]api.Letter{pause(0)}, n), true}, edge{slices.Repeat([]api.Letter{callOf(1250)}, n), true})
	}
	for _, n := range []int{9, 16, 300} {
		l = append(l, edge{slices.Repeat([]api.Letter{pause(0)}, n), false})
	}
	for _, part := range ordinary() {
		may := part.Kind != 12
		l = append(l, edge{[]api.Letter{part}, may}, edge{append(slices.Repeat([]api.Letter{pause(1)}, 7), part), may}, edge{[]api.Letter{part, pause(1)}, may})
	}
	for _, part := range []api.Letter{{}, {Kind: 13}, {Kind: -1}, retry(0), with(retry(1), "Token", 1), pause(64), codeOf(0), codeOf(1025), callOf(0), callOf(10001), manyOf(), manyOf(pause(1)), with(pause(1), "Parts", []api.Letter{pause(2)})} {
		l = append(l, edge{[]api.Letter{part}, false}, edge{append(slices.Repeat([]api.Letter{pause(1)}, 7), part), false}, edge{[]api.Letter{part, pause(1)}, false})
	}
	return append(l,
		edge{[]api.Letter{callOf(10000)}, true}, edge{[]api.Letter{callOf(10000), pause(1)}, true}, edge{[]api.Letter{callOf(10000), callOf(1)}, false},
		edge{[]api.Letter{callOf(1), pause(2), callOf(10000)}, false}, edge{[]api.Letter{callOf(5000), callOf(5000)}, true},
		edge{[]api.Letter{callOf(5000), callOf(5001)}, false}, edge{append(slices.Repeat([]api.Letter{callOf(1250)}, 7), callOf(1251)), false},
		edge{slices.Repeat([]api.Letter{callOf(10000)}, 8), false},
		// Two wrong ones that are together what may be.
		edge{[]api.Letter{callOf(20000), callOf(-10000)}, false}, edge{[]api.Letter{callOf(math.MaxInt), callOf(math.MaxInt), callOf(3)}, false})
}

// edgeCase is an ordinary letter with one field at an edge.
type edgeCase struct {
	name   string
	letter api.Letter
	may    bool
}

// edgeCases are letters of each kind with each field at each of its edges: whether the kind uses the field or not.
func edgeCases() []edgeCase {
	var cases []edgeCase
	for _, l := range ordinary() {
		for name, values := range edges() {
			used := slices.Contains(ofLetters().uses[l.Kind], name)
			for _, x := range values {
				may := used && x.may || !used && isNone(reflect.ValueOf(x.value))
				cases = append(cases, edgeCase{name, with(l, name, x.value), may})
			}
		}
	}
	return cases
}

// right are letters that may be: those of edgeCases, and some whose bytes are about as many as may be.
func right() []api.Letter {
	l := ordinary()
	for _, c := range edgeCases() {
		if c.may {
			l = append(l, c.letter)
		}
	}
	return append(l, longest(992), longest(993), manyOf(slices.Repeat([]api.Letter{codeOf(504)}, 8)...))
}

// longest is a letter of several codes; with 993 bytes in the last its bytes are 4096.
func longest(last int) api.Letter {
	return manyOf(codeOf(1024), codeOf(1024), codeOf(1024), codeOf(last))
}

func wantErr(t *testing.T, what string, got, want api.Errno) {
	t.Helper()
	if got != want {
		t.Errorf("%s: error %d, want %d", what, got, want)
	}
}

// brief tells a value, but not all of a long one.
func brief(x any) string {
	s := fmt.Sprintf("%+v", x)
	if len(s) > 400 {
		s = s[:400] + " .."
	}
	return s
}

// wantBytes holds Bytes against what it is to answer, and Check where that tells it.
func wantBytes(t *testing.T, what string, l api.Letter, want []byte, wantE api.Errno) {
	t.Helper()
	b, e := Bytes(l)
	if !bytes.Equal(b, want) || e != wantE {
		t.Errorf("%s: Bytes(%s): %s, %d, want %s, %d", what, brief(l), brief(b), e, brief(want), wantE)
	}
	if wantE == api.ErrWireLong {
		wantE = api.OK
	}
	wantErr(t, what+": Check", Check(l), wantE)
}

func wantRead(t *testing.T, what string, b []byte, want api.Letter, wantE api.Errno) {
	t.Helper()
	if l, e := Read(b); !alike(l, want) || e != wantE {
		t.Errorf("%s: Read(%s): %s, %d, want %s, %d", what, brief(b), brief(l), e, brief(want), wantE)
	}
}

// wantNoLetter: Read refuses bytes.
func wantNoLetter(t *testing.T, what string, b []byte) {
	t.Helper()
	wantRead(t, what, b, api.Letter{}, api.ErrLetterForm)
}

func TestErrorsNumbers(t *testing.T) {
	errnos := []api.Errno{api.ErrLetterForm, api.ErrLetterKind, api.ErrLetterField, api.ErrLetterEntry, api.ErrWireLong}
	if !slices.Equal(errnos, []api.Errno{60, 61, 62, 63, 30}) {
		t.Errorf("errors' numbers: %d", errnos)
	}
	kinds := []int{api.LetterMove, api.LetterBurn, api.LetterAllow, api.LetterPull, api.LetterRetry, api.LetterCancel, api.LetterToken,
		api.LetterPause, api.LetterResume, api.LetterCode, api.LetterCall, api.LetterMany, api.EntryDeposit, api.EntryCall}
	if !slices.Equal(kinds, []int{1, 2, 3, 4, 5, 6, 7, 8, 9, 10, 11, 12, 1, 2}) {
		t.Errorf("kinds: %d", kinds)
	}
	limits := []int{api.MaxTokens, api.MaxArgs, api.MaxCode, api.MaxParts, api.MaxGas, api.MaxBody, api.MaxCount, api.MaxTime}
	if !slices.Equal(limits, []int{64, 8, 1024, 8, 10000, 4096, 1 << 40, 1 << 62}) {
		t.Errorf("limits: %d", limits)
	}
}

func TestP6_1_Examples(t *testing.T) {
	for i, x := range []struct {
		l api.Letter
		e api.Errno
	}{
		{api.Letter{Kind: 13}, 61}, {api.Letter{Kind: 5}, 62}, {with(retry(1), "Token", 1), 62}, {manyOf(), 62}, {manyOf(manyOf(pause(0))), 62},
		{manyOf(api.Letter{Kind: 13}), 62}, {callOf(0), 62}, {callOf(10000), 0}, {callOf(10001), 62},
		{manyOf(callOf(5000), callOf(5000)), 0}, {manyOf(callOf(5000), callOf(5001)), 62},
	} {
		if e := Check(x.l); e != x.e {
			t.Errorf("example %d: %d, want %d", i, e, x.e)
		}
	}
}

func TestP6_1_Kinds(t *testing.T) {
	wrong := api.Letter{Token: -1, From: addressOf(1), Number: -1, Gas: -1, Args: make([]api.Wide, 9), Code: many(1, 2000), Parts: make([]api.Letter, 9)}
	for _, kind := range []int{0, 13, 14, -1, -12, 255, 256, 257, 1 << 32, 1<<32 + 5, math.MinInt, math.MaxInt} {
		wantErr(t, "a kind that is none", Check(api.Letter{Kind: kind}), api.ErrLetterKind)
		wantErr(t, "and with numbers", Check(api.Letter{Kind: kind, Number: 1, Gas: 1}), api.ErrLetterKind)
		wantErr(t, "and with wrong fields", Check(with(wrong, "Kind", kind)), api.ErrLetterKind)
		wantBytes(t, "a kind that is none", with(wrong, "Kind", kind), nil, api.ErrLetterKind)
	}
	for i, l := range ordinary() {
		if l.Kind != i+1 {
			t.Errorf("ordinary letter %d is of kind %d", i, l.Kind)
		}
		wantErr(t, "an ordinary one", Check(l), api.OK)
		wantErr(t, "wrong fields", Check(with(wrong, "Kind", l.Kind)), api.ErrLetterField)
	}
}

func TestP6_1_Fields(t *testing.T) {
	for _, c := range edgeCases() {
		want := api.ErrLetterField
		if c.may {
			want = api.OK
		}
		if e := Check(c.letter); e != want || sayCheck(c.letter) != want {
			t.Errorf("kind %d, %s: %d (%d), want %d: %s", c.letter.Kind, c.name, e, sayCheck(c.letter), want, brief(c.letter))
		}
	}
}

func TestP6_1_APartAtEachEdge(t *testing.T) {
	for _, c := range edgeCases() {
		want := api.ErrLetterField
		if c.may && c.letter.Kind != 12 {
			want = api.OK
		}
		wantErr(t, "alone: "+c.name, Check(manyOf(c.letter)), want)
		wantErr(t, "behind another: "+c.name, Check(manyOf(pause(1), c.letter)), want)
	}
}

// A list of parts that stands in itself is refused, not followed for ever.
func TestP6_1_PartsWithinThemselves(t *testing.T) {
	parts := make([]api.Letter, 1)
	parts[0] = api.Letter{Kind: 12, Parts: parts}
	wantErr(t, "kind Many", Check(parts[0]), api.ErrLetterField)
	parts[0].Kind = 8
	wantErr(t, "kind Pause", Check(manyOf(parts...)), api.ErrLetterField)
	wantErr(t, "kind Pause", Check(parts[0]), api.ErrLetterField)
}

func TestP6_2_Examples(t *testing.T) {
	z := many(0, 20)
	for _, x := range []struct {
		what string
		l    api.Letter
		b    []byte
	}{
		{"Move", api.Letter{Kind: 1, Token: 3, Amount: api.Wide{256}}, slices.Concat([]byte{1, 1, 3}, z, []byte{2, 1, 0})},
		{"Retry", retry(1), []byte{5, 1, 1}},
		{"Call", api.Letter{Kind: 11, Number: 2, Gas: 300, Args: []api.Wide{{7}, {}}}, []byte{11, 0, 0, 1, 2, 2, 1, 44, 1, 2, 1, 7, 0}},
		{"Many", manyOf(retry(1), pause(0)), []byte{12, 1, 2, 1, 3, 5, 1, 1, 1, 2, 8, 0}},
		{"Code", codeOf(1024), append([]byte{10, 2, 4, 0}, many(7, 1024)...)},
	} {
		wantBytes(t, x.what, x.l, x.b, api.OK)
		wantRead(t, x.what, x.b, x.l, api.OK)
	}
	wantBytes(t, "four codes", longest(1024), nil, api.ErrWireLong)
	if n := len(written(ofLetters(), longest(1024))); n != 4127 {
		t.Errorf("four codes: %d bytes", n)
	}
}

// The bytes of each kind, written out.
func TestP6_2_EachKind(t *testing.T) {
	seven, nine := many(7, 20), many(9, 20)
	forms := [][]byte{
		slices.Concat([]byte{1, 1, 3}, seven, []byte{2, 1, 0}),
		slices.Concat([]byte{2, 1, 3}, seven, []byte{2, 1, 0}),
		slices.Concat([]byte{3, 1, 3}, seven, []byte{2, 1, 0}),
		slices.Concat([]byte{4, 1, 3}, nine, seven, []byte{2, 1, 0}),
		{5, 1, 5},
		{6, 3, 1, 17, 112},
		{7, 1, 4},
		{8, 1, 5},
		{9, 1, 6},
		{10, 1, 3, 1, 0, 2},
		slices.Concat([]byte{11, 1, 2, 9, 6, 0, 0, 0, 0, 0, 0, 0, 5, 2, 1, 44, 2, 2, 188, 1, 3, 1, 7, 0, 32}, many(255, 32)),
	}
	forms = append(forms, slices.Concat([]byte{12, 1, 5, 1, 26}, forms[0], []byte{1, 57}, forms[10], []byte{1, 6}, forms[9], []byte{1, 3, 5, 1, 1, 1, 46}, forms[3]))
	for i, l := range ordinary() {
		wantBytes(t, "kind", l, forms[i], api.OK)
		wantRead(t, "kind", forms[i], l, api.OK)
	}
}

func TestP6_2_Edges(t *testing.T) {
	for _, c := range edgeCases() {
		b, e := sayLetterBytes(c.letter)
		wantBytes(t, c.name, c.letter, b, e)
	}
}

// The letters that are as long as may be, by several ways; one byte more is too much.
func TestP6_2_Long(t *testing.T) {
	if b, e := Bytes(longest(993)); len(b) != 4096 || e != api.OK {
		t.Errorf("4096 bytes: %d, %d", len(b), e)
	}
	wantBytes(t, "4096 bytes", longest(993), written(ofLetters(), longest(993)), api.OK)
	wantBytes(t, "4097 bytes", longest(994), nil, api.ErrWireLong)
	wantBytes(t, "eight codes", manyOf(slices.Repeat([]api.Letter{codeOf(1024)}, 8)...), nil, api.ErrWireLong)
	wantBytes(t, "a wrong part ahead of too many bytes", manyOf(codeOf(1024), codeOf(1024), codeOf(1024), codeOf(1025)), nil, api.ErrLetterField)
	eight := slices.Repeat([]api.Letter{codeOf(504)}, 8)
	for n := 500; n < 520; n++ { // with 509 there are 4096
		eight[7] = codeOf(n)
		b, e := sayLetterBytes(manyOf(eight...))
		wantBytes(t, "eight parts", manyOf(eight...), b, e)
	}
}

func TestP6_3_Examples(t *testing.T) {
	wantRead(t, "Retry 1", []byte{5, 1, 1}, retry(1), api.OK)
	for _, b := range [][]byte{{5, 1, 0}, {5, 0}, {5, 1, 1, 0}, nil, {}} {
		wantNoLetter(t, "no letter", b)
	}
}

// near are bytes beside some: each beginning, each with a byte more, and with a byte changed, left out or put in between.
func near(b []byte) [][]byte {
	var l [][]byte
	for i := range b {
		l = append(l, b[:i], slices.Delete(slices.Clone(b), i, i+1))
		changes := []byte{0, 1, 2, 4, 5, 8, 9, 12, 13, 32, 33, 64, 127, 128, 255, b[i] + 1, b[i] - 1, b[i] ^ 128}
		for _, x := range changes {
			changed := slices.Clone(b)
			changed[i] = x
			l = append(l, changed, slices.Insert(slices.Clone(b), i, x))
		}
	}
	for x := range 256 {
		l = append(l, append(slices.Clone(b), byte(x)))
	}
	return append(l, append(slices.Clone(b), b...), append(slices.Clone(b), 0, 0))
}

func TestP6_3_Near(t *testing.T) {
	for i, l := range right() {
		b := written(ofLetters(), l)
		if len(b) > 150 || i >= len(ordinary()) && i%8 != 0 {
			continue // TestP6_3_NearLong has the long ones; the others are much alike
		}
		wantRead(t, "the bytes", b, l, api.OK)
		for _, x := range near(b) {
			l, e := sayRead(x)
			wantRead(t, "near", x, l, e)
		}
	}
}

func TestP6_3_NearLong(t *testing.T) {
	for _, l := range right() {
		b := written(ofLetters(), l)
		if len(b) <= 150 {
			continue
		}
		wantRead(t, "the bytes", b, l, api.OK)
		wantNoLetter(t, "a byte more", append(slices.Clone(b), 0))
		wantNoLetter(t, "a byte less", b[:len(b)-1])
		wantNoLetter(t, "half of it", b[:len(b)/2])
		for _, at := range []int{0, 1, 2, 3, 4, 5, 6, 7, 8, 9, len(b) / 2, len(b) - 1} {
			for _, x := range []byte{b[at] + 1, b[at] - 1, 0, 255} {
				changed := slices.Clone(b)
				changed[at] = x
				l, e := sayRead(changed)
				wantRead(t, "changed", changed, l, e)
			}
		}
	}
}

// A number has one form: each number of each letter, written in a byte more than it needs.
func TestP6_3_WideForms(t *testing.T) {
	tried := 0
	for _, l := range right() {
		for _, b := range wideForms(ofLetters(), l) {
			if _, e := sayRead(b); e == api.OK {
				t.Fatalf("the words take %v", b)
			}
			wantNoLetter(t, "a number in more bytes than it needs", b)
			tried++
		}
	}
	if tried < 500 {
		t.Errorf("only %d numbers", tried)
	}
	wantNoLetter(t, "2^63", []byte{5, 8, 128, 0, 0, 0, 0, 0, 0, 0})
	wantNoLetter(t, "nine bytes", []byte{5, 9, 1, 0, 0, 0, 0, 0, 0, 0, 0})
}

// What may not be is refused by its bytes, too.
func TestP6_3_Fields(t *testing.T) {
	for _, c := range edgeCases() {
		if c.letter.Token < 0 || c.letter.Number < 0 || c.letter.Gas < 0 {
			continue // there are no bytes of it
		}
		b := written(ofLetters(), c.letter)
		l, e := sayRead(b)
		wantRead(t, c.name, b, l, e)
		used := slices.Contains(ofLetters().uses[c.letter.Kind], c.name)
		if used && !c.may && e != api.ErrLetterForm && c.name != "Parts" { // what a part's kind does not use has no bytes
			t.Errorf("%s: the words take %v", c.name, b)
		}
	}
}

// raw are the bytes of a letter of several, of whatever bytes its parts are.
func raw(parts ...[]byte) []byte {
	s := &scribe{b: []byte{12}, wrong: -1}
	s.count(len(parts))
	for _, p := range parts {
		s.bytes(p)
	}
	return s.b
}

func TestP6_3_Parts(t *testing.T) {
	good := []byte{5, 1, 1}
	for _, l := range ordinary() {
		b := written(ofLetters(), l)
		if l.Kind != 12 {
			wantRead(t, "a part", raw(b), manyOf(l), api.OK)
			wantRead(t, "a part behind another", raw(good, b), manyOf(retry(1), l), api.OK)
		}
		for _, x := range [][]byte{append(slices.Clone(b), 0), b[:len(b)-1], b[1:], raw(b), raw(raw(b)), nil, {0}, {13}, {12}, {12, 0}} {
			wantNoLetter(t, "alone", raw(x))
			wantNoLetter(t, "ahead of a good one", raw(x, good))
			wantNoLetter(t, "behind a good one", raw(good, x))
		}
	}
	for n := range 12 {
		b := raw(slices.Repeat([][]byte{good}, n)...)
		l, e := manyOf(slices.Repeat([]api.Letter{retry(1)}, n)...), api.OK
		if n < 1 || n > 8 {
			l, e = api.Letter{}, api.ErrLetterForm
		}
		wantRead(t, "so many parts", b, l, e)
	}
	gas := func(gas int) []byte { return written(ofLetters(), callOf(gas)) }
	wantRead(t, "gas together", raw(gas(5000), gas(5000)), manyOf(callOf(5000), callOf(5000)), api.OK)
	wantNoLetter(t, "gas together", raw(gas(5000), gas(5001)))
	wantNoLetter(t, "gas of one", raw(gas(0)))
	wantNoLetter(t, "fewer parts than it says", []byte{12, 1, 2, 1, 3, 5, 1, 1})
	wantNoLetter(t, "more parts than it says", []byte{12, 1, 1, 1, 3, 5, 1, 1, 1, 3, 5, 1, 1})
	wantNoLetter(t, "a part that is longer than the whole", []byte{12, 1, 1, 1, 4, 5, 1, 1})
	deep := []byte{8, 0}
	for len(deep) < 4000 {
		deep = raw(deep)
	}
	wantNoLetter(t, "as many in one another as there is room for", deep)
}

func TestP6_3_Long(t *testing.T) {
	at := func(last int) []byte { return written(ofLetters(), longest(last)) }
	wantRead(t, "4096 bytes", at(993), longest(993), api.OK)
	wantNoLetter(t, "4097 bytes", at(994))
	wantNoLetter(t, "4098 bytes", at(995))
	wantNoLetter(t, "4127 bytes", at(1024))
	wantNoLetter(t, "4096 bytes and one", append(at(993), 0))
	wantNoLetter(t, "noughts", make([]byte, 4097))
	wantNoLetter(t, "more than a reader takes", append([]byte{8, 0}, make([]byte, api.MaxBytes)...))
	wantNoLetter(t, "a code of 1025", append([]byte{10, 2, 4, 1}, make([]byte, 1025)...))
	wantNoLetter(t, "a code of so many as no reader has", []byte{10, 8, 127, 255, 255, 255, 255, 255, 255, 255, 1})
	wantNoLetter(t, "nine args", append([]byte{11, 0, 0, 1, 1, 1, 1, 1, 9}, make([]byte, 9)...))
	wantRead(t, "eight args", append([]byte{11, 0, 0, 1, 1, 1, 1, 1, 8}, make([]byte, 8)...), with(callOf(1), "Args", make([]api.Wide, 8)), api.OK)
}

// shortOnes tells all bytes of at most so many letters of an alphabet.
func shortOnes(alphabet []byte, most int, tell func(b []byte)) {
	var goOn func(b []byte)
	goOn = func(b []byte) {
		tell(b)
		if len(b) == most {
			return
		}
		for _, x := range alphabet {
			goOn(append(b, x))
		}
	}
	goOn(make([]byte, 0, most))
}

func everyByte() []byte {
	var l []byte
	for x := range 256 {
		l = append(l, byte(x))
	}
	return l
}

func TestP6_3_AllShortOnes(t *testing.T) {
	letters := 0
	try := func(b []byte) {
		l, e := sayRead(b)
		if e == api.OK {
			letters++
		}
		wantRead(t, "short", b, l, e)
	}
	shortOnes(everyByte(), 2, try)
	if letters != 3 {
		t.Errorf("%d letters of at most two bytes, want Token 0, Pause 0, Resume 0", letters)
	}
	shortOnes([]byte{0, 1, 2, 5, 8, 12}, 6, try)
}

func TestP6_4_Examples(t *testing.T) {
	for _, l := range append(right(), api.Letter{}, api.Letter{Kind: -3, Token: 99, Parts: []api.Letter{manyOf(manyOf(retry(-1)))}}) {
		if !Same(l, l) || !Same(copied(l), l) || !Same(l, copied(l)) {
			t.Errorf("not the same as itself: %s", brief(l))
		}
	}
	none := api.Letter{Args: []api.Wide{}, Code: []byte{}, Parts: []api.Letter{}}
	if !Same(none, api.Letter{}) || !Same(api.Letter{}, none) || !Same(manyOf(none), manyOf(api.Letter{})) {
		t.Error("lists of none are not one")
	}
}

// copied is the same letter in other memory, at all depths, with lists of none where there was nil.
func copied(l api.Letter) api.Letter {
	l.Args = append([]api.Wide{}, l.Args...)
	l.Code = append([]byte{}, l.Code...)
	parts := []api.Letter{}
	for _, p := range l.Parts {
		parts = append(parts, copied(p))
	}
	l.Parts = parts
	return l
}

// full is a letter that may not be, with something in every field.
func full() api.Letter {
	return api.Letter{Kind: 3, Token: 5, From: addressOf(1), To: addressOf(2), Amount: api.Wide{1, 2, 3, 4}, Number: 6, Gas: 7,
		Args: []api.Wide{{1}, {2}, {3}}, Code: []byte{4, 5, 6}, Parts: []api.Letter{retry(1), callOf(2), manyOf(pause(1), pause(2))}}
}

// others are letters that differ from full in one thing each.
func others() map[string]api.Letter {
	l := full()
	return map[string]api.Letter{
		"Kind": with(l, "Kind", 4), "Kind below": with(l, "Kind", -3), "Token": with(l, "Token", 4), "Token below": with(l, "Token", -5),
		"From": with(l, "From", api.Address{19: 1}), "From's last": with(l, "From", func() api.Address { a := addressOf(1); a[19] = 2; return a }()),
		"To": with(l, "To", addressOf(1)), "To's first": with(l, "To", func() api.Address { a := addressOf(2); a[0] = 1; return a }()),
		"Amount's lowest": with(l, "Amount", api.Wide{0, 2, 3, 4}), "Amount's highest": with(l, "Amount", api.Wide{1, 2, 3, 5}), "Amount's second": with(l, "Amount", api.Wide{1, 3, 3, 4}), "Amount's third": with(l, "Amount", api.Wide{1, 2, 2, 4}),
		"Number": with(l, "Number", 5), "Gas": with(l, "Gas", 8), "no Number": with(l, "Number", 0), "no Gas": with(l, "Gas", nil),
		"no Args": with(l, "Args", nil), "fewer Args": with(l, "Args", l.Args[:2]), "more Args": with(l, "Args", []api.Wide{{1}, {2}, {3}, {}}), "Args in another order": with(l, "Args", []api.Wide{{1}, {3}, {2}}), "another of the Args": with(l, "Args", []api.Wide{{1}, {2}, {3, 0, 0, 1}}),
		"no Code": with(l, "Code", nil), "less Code": with(l, "Code", l.Code[:2]), "more Code": with(l, "Code", []byte{4, 5, 6, 0}), "another Code": with(l, "Code", []byte{5, 5, 6}), "Code in another order": with(l, "Code", []byte{4, 6, 5}),
		"no Parts": with(l, "Parts", nil), "fewer Parts": with(l, "Parts", l.Parts[:2]), "more Parts": with(l, "Parts", append(slices.Clone(l.Parts), api.Letter{})), "Parts in another order": with(l, "Parts", []api.Letter{l.Parts[1], l.Parts[0], l.Parts[2]}),
		"a part's field": with(l, "Parts", []api.Letter{retry(1), callOf(3), l.Parts[2]}), "a part's kind": with(l, "Parts", []api.Letter{with(retry(1), "Kind", 6), callOf(2), l.Parts[2]}),
		"a part's part": with(l, "Parts", []api.Letter{retry(1), callOf(2), manyOf(pause(1), pause(3))}), "a part's parts in another order": with(l, "Parts", []api.Letter{retry(1), callOf(2), manyOf(pause(2), pause(1))}),
		"a part's unused field": with(l, "Parts", []api.Letter{with(retry(1), "From", addressOf(1)), callOf(2), l.Parts[2]}),
	}
}

func TestP6_4_OneThingDiffers(t *testing.T) {
	l := full()
	for what, x := range others() {
		if Same(l, x) || Same(x, l) {
			t.Errorf("%s: the same", what)
		}
		if !Same(x, copied(x)) {
			t.Errorf("%s: not the same as itself", what)
		}
		if Same(manyOf(l), manyOf(x)) || Same(manyOf(retry(1), x), manyOf(retry(1), l)) {
			t.Errorf("%s: the same as parts", what)
		}
	}
	for _, name := range []string{"Kind", "Token", "From", "To", "Amount", "Number", "Gas", "Args", "Code", "Parts"} {
		if Same(l, with(l, name, nil)) || Same(with(l, name, nil), l) {
			t.Errorf("%s: the same without", name)
		}
	}
}

func TestP6_4_AgainstTheWords(t *testing.T) {
	letters := []api.Letter{full(), {}}
	for _, x := range others() {
		letters = append(letters, x)
	}
	for _, c := range edgeCases() {
		letters = append(letters, c.letter)
	}
	for i, a := range letters {
		for _, b := range letters[i%7:] {
			if a.Kind != b.Kind && i%11 != 0 {
				continue
			}
			if Same(a, b) != alike(a, b) {
				t.Fatalf("Same(%s, %s) is %v", brief(a), brief(b), Same(a, b))
			}
		}
	}
}

// Parts in one another, as deep as the bound lets them.
func TestP6_4_Deep(t *testing.T) {
	nested := func(inside api.Letter) api.Letter {
		for range 1 << 16 {
			inside = manyOf(inside)
		}
		return inside
	}
	a, b, c := nested(retry(1)), nested(retry(1)), nested(retry(2))
	if !Same(a, b) || Same(a, c) || Same(a, a.Parts[0]) {
		t.Error("deep ones")
	}
	wantBytes(t, "a deep one", a, nil, api.ErrLetterField)
}
