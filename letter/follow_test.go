package letter

import (
	"bytes"
	"fmt"
	"maps"
	"math/rand"
	"reflect"
	"slices"
	"testing"

	"causeway/api"
)

// drawnWide is nought now and then, and of any length.
func drawnWide(r *rand.Rand) api.Wide {
	var a api.Wide
	for i := range r.Intn(5) {
		a[i] = r.Uint64() >> r.Intn(64)
	}
	return a
}

func drawnNumber(r *rand.Rand, most int) int {
	return []int{r.Intn(300), 1 + r.Intn(most), most, 1, most + 1, 0, -1}[min(r.Intn(7), r.Intn(7))]
}

// drawnLetter is a letter that may be, or nearly: now and then a number is one too great, or a field is set that is not used.
func drawnLetter(r *rand.Rand, deep int) api.Letter {
	kind := 1 + r.Intn(12)
	l := api.Letter{Kind: kind}
	for _, name := range slices.Sorted(maps.Keys(ofLetters().mayBe)) {
		if slices.Contains(ofLetters().uses[kind], name) || r.Intn(200) == 0 {
			l = with(l, name, drawnField(r, name, deep))
		}
	}
	return l
}

func drawnField(r *rand.Rand, name string, deep int) any {
	switch name {
	case "Token":
		return r.Intn(64 + r.Intn(2))
	case "From", "To":
		return addressOf(byte(r.Intn(256)))
	case "Amount":
		return drawnWide(r)
	case "Number":
		return drawnNumber(r, 1<<40)
	case "Gas":
		return 1 + r.Intn(3000)
	case "Code":
		return many(byte(r.Intn(256)), 1+r.Intn([]int{5, 50, 500, 1025}[r.Intn(4)]))
	case "Args":
		var l []api.Wide
		for range r.Intn(9) {
			l = append(l, drawnWide(r))
		}
		return l
	}
	var l []api.Letter
	for deep > 0 && len(l) < 8 && (len(l) == 0 || r.Intn(4) > 0) {
		l = append(l, drawnLetter(r, deep-1))
	}
	return l
}

func drawnEntry(r *rand.Rand) api.Entry {
	e := api.Entry{Kind: 1 + r.Intn(2), Sender: addressOf(byte(r.Intn(256))), Time: drawnNumber(r, 1<<62)}
	if e.Kind == 1 {
		e.Token, e.To, e.Amount, e.Gas = r.Intn(64+r.Intn(2)), addressOf(byte(r.Intn(256))), drawnWide(r), drawnNumber(r, 1<<40)
	} else {
		e.Body = many(byte(r.Intn(256)), r.Intn([]int{5, 300, 4098}[r.Intn(3)]))
	}
	if r.Intn(20) == 0 {
		e.Gas = 1
	}
	return e
}

func TestP6_6_Back(t *testing.T) {
	for _, l := range right() {
		b, e := Bytes(l)
		wantErr(t, "Bytes", e, api.OK)
		again, e := Read(b)
		wantErr(t, "Read", e, api.OK)
		if !Same(again, l) || !alike(again, l) {
			t.Errorf("Read of Bytes of %s is %s", brief(l), brief(again))
		}
		wantBytes(t, "Bytes of Read", again, b, api.OK)
	}
	for _, x := range rightEntries() {
		b, e := EntryBytes(x)
		wantErr(t, "EntryBytes", e, api.OK)
		wantReadEntry(t, "ReadEntry of EntryBytes", b, x, api.OK)
		again, _ := ReadEntry(b)
		wantEntryBytes(t, "EntryBytes of ReadEntry", again, b, api.OK)
	}
}

func TestP6_6_Drawn(t *testing.T) {
	r := rand.New(rand.NewSource(6))
	may := map[int]int{}
	for range 6000 {
		l := drawnLetter(r, 2)
		b, e := sayLetterBytes(l)
		wantBytes(t, "drawn", l, b, e)
		if e == api.OK {
			may[l.Kind]++
			wantRead(t, "drawn", b, l, api.OK)
			spoilt := slices.Clone(b)
			spoilt[r.Intn(len(b))] ^= 1 << r.Intn(8)
			l, e := sayRead(spoilt)
			wantRead(t, "drawn and spoilt", spoilt, l, e)
		}
	}
	for kind := 1; kind <= 12; kind++ {
		if may[kind] < 50 {
			t.Errorf("only %d letters of kind %d", may[kind], kind)
		}
	}
	for range 6000 {
		x := drawnEntry(r)
		b, e := sayEntryBytes(x)
		wantEntryBytes(t, "drawn", x, b, e)
		if e == api.OK {
			wantReadEntry(t, "drawn", b, x, api.OK)
			spoilt := slices.Clone(b)
			spoilt[r.Intn(len(b))] ^= 1 << r.Intn(8)
			x, e := sayReadEntry(spoilt)
			wantReadEntry(t, "drawn and spoilt", spoilt, x, e)
		}
	}
}

// Two letters have the same bytes only if they are the same.
func TestP6_6_OneFormEach(t *testing.T) {
	by := map[string]api.Letter{}
	for _, l := range right() {
		b, _ := Bytes(l)
		if other, is := by[string(b)]; is && !alike(l, other) {
			t.Errorf("%s and %s have the same bytes", brief(l), brief(other))
		}
		by[string(b)] = l
	}
	entries := map[string]api.Entry{}
	for _, e := range rightEntries() {
		b, _ := EntryBytes(e)
		if other, is := entries[string(b)]; is && !alike(e, other) {
			t.Errorf("%s and %s have the same bytes", brief(e), brief(other))
		}
		entries[string(b)] = e
	}
}

// wantNoBeginnings: no one of some bytes begins another one; behind one another in order it would stand just ahead of it.
func wantNoBeginnings(t *testing.T, all [][]byte) {
	t.Helper()
	slices.SortFunc(all, bytes.Compare)
	all = slices.CompactFunc(all, bytes.Equal)
	if len(all) < 50 {
		t.Errorf("only %d", len(all))
	}
	for i := range all[1:] {
		if bytes.HasPrefix(all[i+1], all[i]) {
			t.Errorf("%s begins %s", brief(all[i]), brief(all[i+1]))
		}
	}
}

func TestP6_7_NoBeginnings(t *testing.T) {
	r := rand.New(rand.NewSource(7))
	var letters, entries [][]byte
	for _, l := range right() {
		b, _ := Bytes(l)
		letters = append(letters, b)
	}
	for _, e := range rightEntries() {
		b, _ := EntryBytes(e)
		entries = append(entries, b)
	}
	for range 3000 {
		if b, e := Bytes(drawnLetter(r, 1)); e == api.OK {
			letters = append(letters, b)
		}
		if b, e := EntryBytes(drawnEntry(r)); e == api.OK {
			entries = append(entries, b)
		}
	}
	shortOnes([]byte{0, 1, 2, 5, 7, 12}, 6, func(b []byte) {
		if _, e := Read(b); e == api.OK {
			letters = append(letters, slices.Clone(b))
		}
	})
	wantNoBeginnings(t, letters)
	wantNoBeginnings(t, entries)
}

// No beginning of a letter's bytes is a letter.
func TestP6_7_EachBeginning(t *testing.T) {
	for _, l := range append(ordinary(), longest(993)) {
		b, _ := Bytes(l)
		for n := range b {
			wantNoLetter(t, "a beginning", b[:n])
		}
	}
	for _, e := range []api.Entry{deposit(), call(5, 1, 1), call(many(0, 4096)...)} {
		b, _ := EntryBytes(e)
		for n := range b {
			wantNoEntry(t, "a beginning", b[:n])
		}
	}
}

// roomy is the same list with room behind it that must stay as it is; the look tells whether list and room did.
func roomy[T any](list []T, spare ...T) ([]T, func() bool) {
	whole := slices.Concat(list, spare)
	was := fmt.Sprint(whole)
	return whole[:len(list)], func() bool { return fmt.Sprint(whole) == was }
}

// roomyLetter is the same letter with room behind each of its lists.
func roomyLetter(l api.Letter) (api.Letter, func() bool) {
	args, sameArgs := roomy(l.Args, api.Wide{8}, api.Wide{9})
	code, sameCode := roomy(l.Code, 8, 9)
	looks := []func() bool{sameArgs, sameCode}
	var parts []api.Letter
	for _, p := range l.Parts {
		part, same := roomyLetter(p)
		parts, looks = append(parts, part), append(looks, same)
	}
	parts, sameParts := roomy(parts, retry(8), pause(9))
	l.Args, l.Code, l.Parts = args, code, parts
	return l, func() bool {
		return sameParts() && !slices.ContainsFunc(looks, func(same func() bool) bool { return !same() })
	}
}

// spoil fills a list and its spare room.
func spoil[T any](list []T, with T) {
	list = list[:cap(list)]
	for i := range list {
		list[i] = with
	}
}

// lists are ways to spoil each list of a letter and of its parts, by where it stands.
func lists(l *api.Letter, path string) map[string]func() {
	ways := map[string]func(){
		path + "Args": func() { spoil(l.Args, api.Wide{1: 99}) },
		path + "Code": func() { spoil(l.Code, 99) },
	}
	for i := range l.Parts {
		for name, way := range lists(&l.Parts[i], fmt.Sprint(path, i, ".")) {
			ways[name] = way
		}
	}
	return ways
}

func TestR4_Letters(t *testing.T) {
	for _, l := range right() {
		given, same := roomyLetter(l)
		want := written(ofLetters(), l)
		Check(given)
		Same(given, l)
		Same(l, given)
		b, _ := Bytes(given)
		if !same() {
			t.Fatalf("%s, or the room behind its lists, has changed", brief(l))
		}
		other, _ := Bytes(given)
		spoil(b, 0xaa)
		if !bytes.Equal(other, want) || !same() {
			t.Errorf("%s: two answers, or the letter and an answer, share memory", brief(l))
		}
		for _, way := range lists(&given, "") {
			way()
		}
		spoil(given.Parts, retry(9))
		if !bytes.Equal(other, want) {
			t.Errorf("%s: the bytes hang on the letter", brief(l))
		}
	}
}

func TestR4_Read(t *testing.T) {
	for _, l := range right() {
		b, same := roomy(written(ofLetters(), l), 1, 2, 3)
		first, _ := Read(b)
		second, _ := Read(b)
		if !same() {
			t.Fatal("the bytes, or the room behind them, have changed")
		}
		spoil(b, 0xaa)
		if !alike(first, l) {
			t.Errorf("the letter hangs on the bytes: %s", brief(first))
		}
		for _, way := range lists(&first, "") {
			way()
		}
		spoil(first.Parts, retry(9))
		if !alike(second, l) {
			t.Errorf("two letters share memory: %s", brief(second))
		}
	}
}

// No two lists of one letter share memory: whichever is spoilt, with its spare room, the others stay.
func TestR4_NoTwoLists(t *testing.T) {
	call := api.Letter{Kind: 11, Number: 1, Gas: 1, Args: []api.Wide{{1}, {2}, {3}}}
	many := manyOf(call, codeOf(5), call, codeOf(9), codeOf(1), call)
	b := written(ofLetters(), many)
	l, _ := Read(b)
	for name := range lists(&l, "") {
		got, _ := Read(b)
		wanted := copied(many)
		lists(&got, "")[name]()
		// A copy's lists have nothing to do with each other, so this is what spoiling may change.
		lists(&wanted, "")[name]()
		if !alike(got, wanted) {
			t.Errorf("with %s spoilt: %s", name, brief(got))
		}
	}
	got, _ := Read(b)
	spare := got.Parts[len(got.Parts):cap(got.Parts)]
	spoil(spare, retry(9))
	if !alike(got, many) {
		t.Errorf("the room behind the parts is not its own: %s", brief(got))
	}
}

func TestR4_Entries(t *testing.T) {
	for _, e := range rightEntries() {
		want := written(ofEntries(), e)
		given := e
		body, same := roomy(e.Body, 1, 2, 3)
		given.Body = body
		CheckEntry(given)
		b, _ := EntryBytes(given)
		other, _ := EntryBytes(given)
		if !same() {
			t.Fatal("the body, or the room behind it, has changed")
		}
		spoil(b, 0xaa)
		spoil(body, 0xbb)
		if !bytes.Equal(other, want) {
			t.Errorf("the bytes are not new: %s", brief(other))
		}
		from, same := roomy(want, 1, 2, 3)
		first, _ := ReadEntry(from)
		second, _ := ReadEntry(from)
		if !same() {
			t.Fatal("the bytes, or the room behind them, have changed")
		}
		spoil(from, 0xaa)
		spoil(second.Body, 0xbb)
		if !alike(first, e) {
			t.Errorf("the entry is not new: %s", brief(first))
		}
	}
}

// Beside an error stands nothing else.
func TestR2_Refused(t *testing.T) {
	for _, l := range []api.Letter{{}, retry(0), longest(1024)} {
		if b, e := Bytes(l); b != nil && len(b) > 0 || e == api.OK {
			t.Errorf("Bytes: %v, %d", b, e)
		}
	}
	b := written(ofLetters(), longest(993))
	for _, b := range [][]byte{b[:4095], append(b, 0), written(ofLetters(), longest(994))} {
		if l, e := Read(b); !reflect.DeepEqual(l, api.Letter{}) || e != api.ErrLetterForm {
			t.Errorf("Read: %s, %d", brief(l), e)
		}
	}
	b = written(ofEntries(), call(1, 2, 3))
	if e, fault := ReadEntry(append(b, 0)); !reflect.DeepEqual(e, api.Entry{}) || fault != api.ErrLetterEntry {
		t.Errorf("ReadEntry: %s, %d", brief(e), fault)
	}
}

// FuzzAgainstTheWords holds what any bytes are, as a letter and as an entry, against the second reckoning.
func FuzzAgainstTheWords(f *testing.F) {
	for _, l := range ordinary() {
		f.Add(written(ofLetters(), l))
	}
	f.Add(written(ofEntries(), deposit()))
	f.Add(written(ofEntries(), call(5, 1, 1)))
	f.Fuzz(func(t *testing.T, b []byte) {
		l, e := sayRead(b)
		wantRead(t, "Read", b, l, e)
		if e == api.OK {
			wantBytes(t, "Bytes of Read", l, b, api.OK)
		}
		x, e := sayReadEntry(b)
		wantReadEntry(t, "ReadEntry", b, x, e)
		if e == api.OK {
			wantEntryBytes(t, "EntryBytes of ReadEntry", x, b, api.OK)
		}
	})
}

func BenchmarkBytes(b *testing.B) {
	l := ordinary()[11]
	for b.Loop() {
		Bytes(l)
	}
}

func BenchmarkRead(b *testing.B) {
	from, _ := Bytes(ordinary()[11])
	for b.Loop() {
		Read(from)
	}
}

func BenchmarkReadEntry(b *testing.B) {
	from, _ := EntryBytes(deposit())
	for b.Loop() {
		ReadEntry(from)
	}
}
