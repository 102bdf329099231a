package letter

import (
	"bytes"
	"math"
	"reflect"
	"slices"
	"testing"

	"causeway/api"
)

func deposit() api.Entry {
	return api.Entry{Kind: 1, Sender: addressOf(3), Time: 1000, Token: 5, To: addressOf(4), Amount: api.Wide{7, 8}, Gas: 100}
}

func call(body ...byte) api.Entry {
	return api.Entry{Kind: 2, Sender: addressOf(6), Time: 70000, Body: body}
}

// entryEdges are of each field of an entry the least and the greatest values, those beyond them, and some others.
func entryEdges() map[string][]edge {
	of := edges()
	return map[string][]edge{
		"Sender": of["To"],
		"Time":   {{0, true}, {1, true}, {1<<62 - 1, true}, {1 << 62, true}, {1<<62 + 1, false}, {-1, false}, {math.MinInt, false}, {math.MaxInt, false}},
		"Token":  of["Token"],
		"To":     of["To"],
		"Amount": {{api.Wide{}, false}, {api.Wide{1}, true}, {api.Wide{0, 1}, true}, {api.Wide{0, 0, 1}, true}, {api.Wide{3: 1}, true}, {greatest, true}},
		"Gas":    {{0, true}, {1, true}, {99, true}, {10001, true}, {1<<40 - 1, true}, {1 << 40, true}, {1<<40 + 1, false}, {-1, false}, {math.MinInt, false}, {math.MaxInt, false}},
		"Body":   {{[]byte(nil), true}, {[]byte{}, true}, {[]byte{0}, true}, {many(255, 256), true}, {many(1, 4095), true}, {many(0, 4096), true}, {many(0, 4097), false}, {many(1, 70000), false}},
	}
}

// entryCase is an ordinary entry with one field at an edge.
type entryCase struct {
	name  string
	entry api.Entry
	may   bool
	used  bool
}

func entryCases() []entryCase {
	var cases []entryCase
	for _, e := range []api.Entry{deposit(), call(5, 1, 1)} {
		for name, values := range entryEdges() {
			used := slices.Contains(ofEntries().uses[e.Kind], name)
			for _, x := range values {
				may := used && x.may || !used && isNone(reflect.ValueOf(x.value))
				cases = append(cases, entryCase{name, with(e, name, x.value), may, used})
			}
		}
	}
	return cases
}

// rightEntries are entries that may be.
func rightEntries() []api.Entry {
	l := []api.Entry{deposit(), call(5, 1, 1), {Kind: 2}, {Kind: 1, Amount: api.Wide{1}}}
	for _, c := range entryCases() {
		if c.may {
			l = append(l, c.entry)
		}
	}
	return l
}

// wantEntryBytes holds EntryBytes and CheckEntry against what they are to answer.
func wantEntryBytes(t *testing.T, what string, e api.Entry, want []byte, wantE api.Errno) {
	t.Helper()
	if b, fault := EntryBytes(e); !bytes.Equal(b, want) || fault != wantE {
		t.Errorf("%s: EntryBytes(%s): %s, %d, want %s, %d", what, brief(e), brief(b), fault, brief(want), wantE)
	}
	wantErr(t, what+": CheckEntry", CheckEntry(e), wantE)
}

func wantReadEntry(t *testing.T, what string, b []byte, want api.Entry, wantE api.Errno) {
	t.Helper()
	if e, fault := ReadEntry(b); !alike(e, want) || fault != wantE {
		t.Errorf("%s: ReadEntry(%s): %s, %d, want %s, %d", what, brief(b), brief(e), fault, brief(want), wantE)
	}
}

// wantNoEntry: ReadEntry refuses bytes.
func wantNoEntry(t *testing.T, what string, b []byte) {
	t.Helper()
	wantReadEntry(t, what, b, api.Entry{}, api.ErrLetterEntry)
}

func TestP6_5_Examples(t *testing.T) {
	z := many(0, 20)
	for _, x := range []struct {
		what string
		e    api.Entry
		b    []byte
	}{
		{"a call", api.Entry{Kind: 2, Body: []byte{5, 1, 1}}, slices.Concat([]byte{2}, z, []byte{0, 1, 3, 5, 1, 1})},
		{"a deposit", api.Entry{Kind: 1, Time: 5, Amount: api.Wide{1}, Gas: 100}, slices.Concat([]byte{1}, z, []byte{1, 5, 0}, z, []byte{1, 1, 1, 100})},
		{"a deposit with all fields", deposit(), slices.Concat([]byte{1}, many(3, 20), []byte{2, 3, 232, 1, 5}, many(4, 20), []byte{9, 8, 0, 0, 0, 0, 0, 0, 0, 7, 1, 100})},
		{"a call with all fields", call(0), slices.Concat([]byte{2}, many(6, 20), []byte{3, 1, 17, 112, 1, 1, 0})},
		{"a call without a body", api.Entry{Kind: 2}, slices.Concat([]byte{2}, z, []byte{0, 0})},
		{"a call of what is no letter", call(99, 0, 99), slices.Concat([]byte{2}, many(6, 20), []byte{3, 1, 17, 112, 1, 3, 99, 0, 99})},
	} {
		wantEntryBytes(t, x.what, x.e, x.b, api.OK)
		wantReadEntry(t, x.what, x.b, x.e, api.OK)
	}
	for _, e := range []api.Entry{with(deposit(), "Amount", api.Wide{}), with(call(1), "Token", 1), call(many(0, 4097)...)} {
		wantEntryBytes(t, "no entry", e, nil, api.ErrLetterEntry)
	}
}

func TestP6_5_Kinds(t *testing.T) {
	for _, kind := range []int{0, 3, 4, -1, -2, 255, 256, 257, 258, 1<<32 + 1, math.MinInt, math.MaxInt} {
		for _, e := range []api.Entry{{}, deposit(), call(1), call()} {
			wantEntryBytes(t, "a kind that is none", with(e, "Kind", kind), nil, api.ErrLetterEntry)
		}
	}
	wantEntryBytes(t, "a call with a deposit's fields", with(deposit(), "Kind", 2), nil, api.ErrLetterEntry)
	wantEntryBytes(t, "a deposit with a call's fields", with(call(1), "Kind", 1), nil, api.ErrLetterEntry)
	for kind := range 256 {
		for _, e := range []api.Entry{deposit(), call(5, 1, 1), {Kind: 2}} {
			b := written(ofEntries(), e)
			b[0] = byte(kind)
			e, fault := sayReadEntry(b)
			wantReadEntry(t, "another kind", b, e, fault)
		}
		wantNoEntry(t, "a kind alone", []byte{byte(kind)})
	}
}

func TestP6_5_Fields(t *testing.T) {
	for _, c := range entryCases() {
		b, fault := sayEntryBytes(c.entry)
		if (fault == api.OK) != c.may {
			t.Errorf("%s of kind %d: the words say %d: %s", c.name, c.entry.Kind, fault, brief(c.entry))
		}
		wantEntryBytes(t, c.name, c.entry, b, fault)
	}
}

// What may not be is refused by its bytes, too.
func TestP6_5_ReadFields(t *testing.T) {
	for _, c := range entryCases() {
		if c.entry.Token < 0 || c.entry.Time < 0 || c.entry.Gas < 0 {
			continue // there are no bytes of it
		}
		b := written(ofEntries(), c.entry)
		e, fault := sayReadEntry(b)
		if c.used && (fault == api.OK) != c.may {
			t.Errorf("%s: the words say %d of %s", c.name, fault, brief(b))
		}
		wantReadEntry(t, c.name, b, e, fault)
	}
}

func TestP6_5_Near(t *testing.T) {
	for i, e := range rightEntries() {
		b := written(ofEntries(), e)
		wantReadEntry(t, "the bytes", b, e, api.OK)
		wantNoEntry(t, "a byte more", append(slices.Clone(b), 0))
		wantNoEntry(t, "a byte less", b[:len(b)-1])
		if len(b) > 300 || i%3 != 0 {
			continue
		}
		for _, x := range near(b) {
			e, fault := sayReadEntry(x)
			wantReadEntry(t, "near", x, e, fault)
		}
	}
	wantNoEntry(t, "nothing", nil)
	wantNoEntry(t, "empty", []byte{})
	wantNoEntry(t, "more than a reader takes", append(written(ofEntries(), call()), make([]byte, api.MaxBytes)...))
	wantNoEntry(t, "a body of so many as no reader has", slices.Concat([]byte{2}, many(0, 21), []byte{8, 127, 255, 255, 255, 255, 255, 255, 255, 1}))
}

func TestP6_5_WideForms(t *testing.T) {
	tried := 0
	for _, e := range rightEntries() {
		for _, b := range wideForms(ofEntries(), e) {
			wantNoEntry(t, "a number in more bytes than it needs", b)
			tried++
		}
	}
	if tried < 100 {
		t.Errorf("only %d numbers", tried)
	}
	z := many(0, 20)
	wantNoEntry(t, "a time of 2^63", slices.Concat([]byte{2}, z, []byte{8, 128, 0, 0, 0, 0, 0, 0, 0, 0}))
	wantNoEntry(t, "a time of 2^62 + 1", slices.Concat([]byte{2}, z, []byte{8, 64, 0, 0, 0, 0, 0, 0, 1, 0}))
	wantReadEntry(t, "a time of 2^62", slices.Concat([]byte{2}, z, []byte{8, 64, 0, 0, 0, 0, 0, 0, 0, 0}), api.Entry{Kind: 2, Time: 1 << 62}, api.OK)
	wantNoEntry(t, "an amount of 33 bytes", slices.Concat([]byte{1}, z, []byte{0, 0}, z, []byte{33, 1}, make([]byte, 32), []byte{0}))
}
