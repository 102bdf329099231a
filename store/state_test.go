package store

import (
	"bytes"
	"fmt"
	"maps"
	"math/rand"
	"slices"
	"strings"
	"testing"

	"causeway/api"
)

func stateOver(t *testing.T, source Source) *State {
	t.Helper()
	s, e := Over(source)
	if s == nil || e != api.OK {
		t.Fatalf("Over: %d", e)
	}
	return s
}

func wantGet(t *testing.T, what string, s *State, key, wanted string, f api.Errno) {
	t.Helper()
	got, e := s.Get(key)
	wantValue(t, what+": Get "+brief(key), got, e, wanted, f)
}

func sameChanges(a, b []api.Change) bool {
	return slices.EqualFunc(a, b, func(a, b api.Change) bool {
		return a.Key == b.Key && bytes.Equal(a.Old, b.Old) && bytes.Equal(a.New, b.New)
	})
}

func changed(key, before, behind string) api.Change {
	return api.Change{Key: key, Old: []byte(before), New: []byte(behind)}
}

func wantChanges(t *testing.T, what string, s *State, wanted ...api.Change) {
	t.Helper()
	if got := s.Changes(); !sameChanges(got, wanted) {
		t.Errorf("%s: Changes: %s, not %s", what, brief(got), brief(wanted))
	}
}

func wantTouched(t *testing.T, what string, s *State, wanted ...string) {
	t.Helper()
	if got := s.Touched(); !slices.Equal(got, wanted) {
		t.Errorf("%s: Touched: %s, not %s", what, brief(got), brief(wanted))
	}
}

// scripted is a source that tells what it is made to, and writes down what it is asked.
type scripted struct {
	asked []string
	tell  func(key string, times int) ([]byte, api.Errno)
}

func (s *scripted) Find(key string) ([]byte, api.Errno) {
	times := 0
	for _, k := range s.asked {
		if k == key {
			times++
		}
	}
	s.asked = append(s.asked, key)
	return s.tell(key, times)
}

// alwaysTells is a source that has the same value at every key.
func alwaysTells(value string) *scripted {
	return &scripted{tell: func(string, int) ([]byte, api.Errno) { return []byte(value), api.OK }}
}

func wantAsked(t *testing.T, what string, s *scripted, wanted ...string) {
	t.Helper()
	if !slices.Equal(s.asked, wanted) {
		t.Errorf("%s: the source was asked %s, not %s", what, brief(s.asked), brief(wanted))
	}
}

func TestP7_7_Examples(t *testing.T) {
	s, e := Over(nil)
	if s != nil || e != api.ErrArg {
		t.Errorf("Over(nil): %d", e)
	}
	var none Source
	s, e = Over(none)
	if s != nil || e != api.ErrArg {
		t.Errorf("Over of a Source that is nil: %d", e)
	}
}

func TestP7_7_WithoutSteps(t *testing.T) {
	source := alwaysTells("5")
	s := stateOver(t, source)
	wantTouched(t, "Over", s)
	wantChanges(t, "Over", s)
	wantErr(t, "Back(0)", s.Back(0), api.ErrStoreMark)
	if m := s.Mark(); m != 0 {
		t.Errorf("the first mark is %d", m)
	}
	wantAsked(t, "Over", source)
}

// A nil pointer within the interface is a source: what it tells counts.
func TestP7_7_NilPointerWithin(t *testing.T) {
	var none *Table
	s := stateOver(t, none)
	wantGet(t, "a nil table", s, "a", "", api.ErrArg)
	wantErr(t, "a nil table: Put", s.Put("a", []byte{1}), api.ErrArg)
	wantTouched(t, "a nil table", s)
}

func TestP7_8_AskedOnce(t *testing.T) {
	source := alwaysTells("5")
	s := stateOver(t, source)
	for range 3 {
		wantGet(t, "asked", s, "b", "5", api.OK)
	}
	wantErr(t, "Put", s.Put("a", []byte("1")), api.OK)
	wantGet(t, "laid", s, "a", "1", api.OK)
	s.Mark()
	wantErr(t, "Put", s.Put("a", nil), api.OK)
	wantErr(t, "Put", s.Put("c", []byte("3")), api.OK)
	wantErr(t, "Back", s.Back(0), api.OK)
	wantGet(t, "behind Back", s, "a", "1", api.OK)
	wantGet(t, "behind Back", s, "c", "5", api.OK)
	s.Touched()
	s.Changes()
	wantAsked(t, "once a key, as it comes", source, "b", "a", "c")
}

// Where the source has nothing it is not asked again either.
func TestP7_8_NothingIsKeptToo(t *testing.T) {
	for _, nothing := range [][]byte{nil, {}} {
		source := &scripted{tell: func(string, int) ([]byte, api.Errno) { return nothing, api.OK }}
		s := stateOver(t, source)
		for range 2 {
			wantGet(t, "nothing", s, "a", "", api.OK)
			wantErr(t, "Put", s.Put("b", nil), api.OK)
		}
		wantTouched(t, "nothing", s, "a", "b")
		wantChanges(t, "nothing", s)
		wantAsked(t, "nothing", source, "a", "b")
	}
}

func TestP7_8_Refuses(t *testing.T) {
	for _, refusal := range []api.Errno{api.ErrStoreMissing, api.ErrStoreForm, api.ErrStoreKey, api.ErrArg, 9999, -1} {
		source := &scripted{tell: func(string, int) ([]byte, api.Errno) { return []byte("beside it"), refusal }}
		s := stateOver(t, source)
		s.Mark()
		wantGet(t, "refused", s, "a", "", refusal)
		wantErr(t, "Put", s.Put("a", []byte("1")), refusal)
		wantErr(t, "Put of nothing", s.Put("b", nil), refusal)
		wantGet(t, "refused again", s, "b", "", refusal)
		wantTouched(t, "refused", s)
		wantChanges(t, "refused", s)
		wantErr(t, "Back", s.Back(0), api.OK)
		wantAsked(t, "each time", source, "a", "a", "b", "b")
	}
}

func TestP7_8_RefusesOnce(t *testing.T) {
	for _, first := range []string{"Get", "Put"} {
		for _, then := range []string{"Get", "Put"} {
			source := &scripted{tell: func(key string, times int) ([]byte, api.Errno) {
				if times == 0 {
					return []byte("no"), api.ErrStoreMissing
				}
				return []byte("5"), api.OK
			}}
			s := stateOver(t, source)
			if first == "Get" {
				wantGet(t, "at first", s, "a", "", api.ErrStoreMissing)
			} else {
				wantErr(t, "Put at first", s.Put("a", []byte("1")), api.ErrStoreMissing)
			}
			wantTouched(t, "at first", s)
			if then == "Get" {
				wantGet(t, "then", s, "a", "5", api.OK)
				wantChanges(t, "then", s)
			} else {
				wantErr(t, "Put then", s.Put("a", []byte("2")), api.OK)
				wantChanges(t, "then", s, changed("a", "5", "2"))
			}
			wantTouched(t, "then", s, "a")
			wantAsked(t, "twice", source, "a", "a")
		}
	}
}

func TestP7_8_TellsTooManyBytes(t *testing.T) {
	for _, size := range []int{4097, 5000, 1 << 20} {
		source := &scripted{tell: func(key string, times int) ([]byte, api.Errno) {
			return many(7, size), []api.Errno{api.OK, api.OK, api.ErrStoreMissing, api.OK}[min(times, 3)]
		}}
		s := stateOver(t, source)
		wantGet(t, "too many", s, "a", "", api.ErrStoreValue)
		wantErr(t, "Put", s.Put("a", []byte("1")), api.ErrStoreValue)
		wantGet(t, "too many beside an error", s, "a", "", api.ErrStoreMissing)
		wantGet(t, "too many", s, "a", "", api.ErrStoreValue)
		wantTouched(t, "too many", s)
		wantChanges(t, "too many", s)
		wantAsked(t, "each time", source, "a", "a", "a", "a")
	}
	for _, size := range []int{4095, 4096} {
		source := alwaysTells(string(many(7, size)))
		s := stateOver(t, source)
		wantGet(t, "as many as may be", s, "a", string(many(7, size)), api.OK)
		wantErr(t, "Put", s.Put("a", []byte("1")), api.OK)
		wantChanges(t, "as many as may be", s, changed("a", string(many(7, size)), "1"))
		wantAsked(t, "once", source, "a")
	}
}

func TestP7_8_TellsOtherwiseEachTime(t *testing.T) {
	source := &scripted{tell: func(key string, times int) ([]byte, api.Errno) { return fmt.Appendf(nil, "%s%d", key, times), api.OK }}
	s := stateOver(t, source)
	other := stateOver(t, source)
	for range 2 {
		wantGet(t, "the first", s, "a", "a0", api.OK)
		wantGet(t, "the second", other, "a", "a1", api.OK)
	}
	wantErr(t, "Put", s.Put("a", []byte("x")), api.OK)
	wantChanges(t, "the first", s, changed("a", "a0", "x"))
	wantChanges(t, "the second", other)
}

func TestP7_8_ChangesItsMemoryLater(t *testing.T) {
	shared := make([]byte, 8)
	source := &scripted{tell: func(key string, times int) ([]byte, api.Errno) {
		copy(shared, key)
		return shared[:len(key)], api.OK
	}}
	s := stateOver(t, source)
	wantGet(t, "ahead", s, "abc", "abc", api.OK)
	wantErr(t, "Put", s.Put("xyz", []byte("1")), api.OK)
	spoil(shared, 99)
	wantGet(t, "behind", s, "abc", "abc", api.OK)
	wantChanges(t, "behind", s, changed("xyz", "xyz", "1"))
	if !bytes.Equal(shared, many(99, 8)) {
		t.Errorf("the source's memory was changed: %x", shared)
	}
}

// A source may ask the state itself: what was kept first stays, and so does what was laid meanwhile.
func TestP7_8_AsksTheStateItself(t *testing.T) {
	var s *State
	source := &scripted{}
	source.tell = func(key string, times int) ([]byte, api.Errno) {
		if key == "a" && times == 0 {
			wantErr(t, "Put within", s.Put("a", []byte("within")), api.OK)
			wantGet(t, "within", s, "b", "b0", api.OK)
		}
		return fmt.Appendf(nil, "%s%d", key, times), api.OK
	}
	s = stateOver(t, source)
	s.Mark()
	wantGet(t, "behind", s, "a", "within", api.OK)
	wantChanges(t, "behind", s, changed("a", "a1", "within"))
	wantErr(t, "Back", s.Back(0), api.OK)
	wantGet(t, "taken back", s, "a", "a1", api.OK)
	wantTouched(t, "behind", s, "a", "b")
	wantAsked(t, "no more", source, "a", "a", "b")
}

// A source that panics has told nothing; the panic goes through, and the state goes on.
func TestP7_8_Panics(t *testing.T) {
	source := &scripted{tell: func(key string, times int) ([]byte, api.Errno) {
		if times == 0 {
			panic("no")
		}
		return []byte("5"), api.OK
	}}
	s := stateOver(t, source)
	func() {
		defer func() {
			if why := recover(); why != "no" {
				t.Errorf("the panic did not go through: %v", why)
			}
		}()
		s.Get("a")
	}()
	wantTouched(t, "behind a panic", s)
	wantGet(t, "behind a panic", s, "a", "5", api.OK)
}

func TestP7_9_Examples(t *testing.T) {
	s := stateOver(t, tableOf(texts{"a": "\x01"}))
	wantGet(t, "1", s, "a", "\x01", api.OK)
	wantErr(t, "Put a", s.Put("a", []byte{9}), api.OK)
	if m := s.Mark(); m != 0 {
		t.Errorf("Mark: %d", m)
	}
	wantErr(t, "Put b", s.Put("b", []byte{2}), api.OK)
	wantGet(t, "2", s, "b", "\x02", api.OK)
	wantErr(t, "Back", s.Back(0), api.OK)
	wantGet(t, "3", s, "b", "", api.OK)
	wantGet(t, "4", s, "a", "\x09", api.OK)
	wantTouched(t, "5", s, "a", "b")
	wantChanges(t, "6", s, changed("a", "\x01", "\x09"))
	wantErr(t, "Back(1)", s.Back(1), api.ErrStoreMark)
	if m := s.Mark(); m != 1 {
		t.Errorf("Mark again: %d", m)
	}
	wantErr(t, "Put a again", s.Put("a", []byte{1}), api.OK)
	wantChanges(t, "7", s)
}

func TestP7_9_EdgesAndTheOrderOfErrors(t *testing.T) {
	for _, refusal := range []api.Errno{api.OK, api.ErrStoreMissing} {
		for _, key := range edgeKeys() {
			for _, value := range edgeValues() {
				source := &scripted{tell: func(string, int) ([]byte, api.Errno) { return []byte("has"), refusal }}
				s := stateOver(t, source)
				s.Mark()
				what := fmt.Sprintf("%d and %d bytes", len(key), len(value))
				wanted := sayCheck(key, value)
				asks := wanted == api.OK
				if asks {
					wanted = refusal
				}
				wantErr(t, what+": Put", s.Put(key, []byte(value)), wanted)
				if asks {
					wantAsked(t, what, source, key)
				} else {
					wantAsked(t, what, source)
				}
				switch {
				case !sayKey(key):
					wantGet(t, what, s, key, "", api.ErrStoreKey)
				case refusal != api.OK:
					wantGet(t, what, s, key, "", refusal)
				case asks:
					wantGet(t, what, s, key, value, api.OK)
					wantChanges(t, what, s, changed(key, "has", value))
				default:
					wantTouched(t, what, s)
					wantGet(t, what, s, key, "has", api.OK)
				}
			}
		}
	}
}

func TestP7_9_TheLastOneCounts(t *testing.T) {
	s := stateOver(t, tableOf(texts{"a": "1", "aa": "2"}))
	for _, value := range []string{"x", "", "", "y", "1", string(many(0, 4096)), ""} {
		wantErr(t, "Put", s.Put("a", []byte(value)), api.OK)
		wantGet(t, "the last one", s, "a", value, api.OK)
		wantGet(t, "a key that it begins", s, "aa", "2", api.OK)
		wantGet(t, "no such key", s, "aaa", "", api.OK)
	}
}

func TestP7_10_Marks(t *testing.T) {
	s := stateOver(t, tableOf(texts{"k": "0"}))
	at := func(mark int) string { return fmt.Sprint("at ", mark) }
	for mark := range 6 {
		s.Put("k", []byte(at(mark)))
		if m := s.Mark(); m != mark {
			t.Errorf("mark %d is %d", mark, m)
		}
	}
	s.Put("k", []byte("behind all"))
	for _, mark := range []int{-1, -1 << 63, 6, 7, 1<<63 - 1} {
		wantErr(t, fmt.Sprint("Back to ", mark), s.Back(mark), api.ErrStoreMark)
		wantGet(t, "a refused Back", s, "k", "behind all", api.OK)
	}
	for mark := 5; mark >= 0; mark-- {
		s.Put("k", []byte("meanwhile"))
		s.Put("other", []byte("meanwhile"))
		for range 2 {
			wantErr(t, "Back", s.Back(mark), api.OK)
			wantGet(t, "behind Back", s, "k", at(mark), api.OK)
			wantGet(t, "behind Back", s, "other", "", api.OK)
			wantErr(t, "Back to a mark that is gone", s.Back(mark+1), api.ErrStoreMark)
		}
		// That mark stays, and the next one has the number behind it.
		s.Put("k", []byte("more"))
		if m := s.Mark(); m != mark+1 {
			t.Errorf("the mark behind %d is %d", mark, m)
		}
		s.Put("k", []byte("still more"))
		wantErr(t, "Back to the new one", s.Back(mark+1), api.OK)
		wantGet(t, "the new one", s, "k", "more", api.OK)
		wantErr(t, "Back once more", s.Back(mark), api.OK)
		wantGet(t, "once more", s, "k", at(mark), api.OK)
	}
	wantTouched(t, "at the end", s, "k", "other")
}

// Marks at one place are several, and steps ahead of the first one stay.
func TestP7_10_MarksAtOnePlace(t *testing.T) {
	s := stateOver(t, NewTable())
	s.Put("a", []byte("1"))
	for mark := range 3 {
		if m := s.Mark(); m != mark {
			t.Errorf("mark %d is %d", mark, m)
		}
	}
	s.Put("a", []byte("2"))
	s.Put("b", []byte("2"))
	wantErr(t, "Back(1)", s.Back(1), api.OK)
	wantErr(t, "Back(2)", s.Back(2), api.ErrStoreMark)
	wantGet(t, "ahead of the first mark", s, "a", "1", api.OK)
	wantErr(t, "Back(0)", s.Back(0), api.OK)
	wantGet(t, "ahead of the first mark", s, "a", "1", api.OK)
	wantChanges(t, "ahead of the first mark", s, changed("a", "", "1"))
	if m := s.Mark(); m != 1 {
		t.Errorf("the mark behind 0 is %d", m)
	}
}

func TestP7_10_TakenBackInTurn(t *testing.T) {
	s := stateOver(t, tableOf(texts{"a": "1", "b": "2"}))
	s.Mark()
	for _, step := range []api.Pair{pair("a", "x"), pair("b", ""), pair("a", ""), pair("c", "3"), pair("a", "y"), pair("b", "2"), pair("c", "")} {
		wantErr(t, "Put", s.Put(step.Key, step.Value), api.OK)
	}
	wantErr(t, "Back", s.Back(0), api.OK)
	for key, value := range map[string]string{"a": "1", "b": "2", "c": ""} {
		wantGet(t, "behind Back", s, key, value, api.OK)
	}
	wantChanges(t, "behind Back", s)
}

func TestP7_11_Touched(t *testing.T) {
	s := stateOver(t, NewTable())
	s.Mark()
	keys := []string{"b", "a", "ab", "a\x00", "\xff", "\x00", keyOf('a', 128), "B", "b\xff"}
	for i, key := range keys {
		if i%2 == 0 {
			s.Get(key)
		} else {
			s.Put(key, []byte("1"))
		}
		s.Get("")
		s.Put(keyOf('a', 129), nil)
		s.Put("too long", many(1, 4097))
	}
	wanted := []string{"\x00", "B", "a", "a\x00", keyOf('a', 128), "ab", "b", "b\xff", "\xff"}
	wantTouched(t, "all", s, wanted...)
	wantErr(t, "Back", s.Back(0), api.OK)
	wantTouched(t, "behind Back", s, wanted...)
	wantChanges(t, "behind Back", s)
}

func TestP7_11_Changes(t *testing.T) {
	s := stateOver(t, tableOf(texts{"a": "1", "b": "2", "c": "3", "d": "4", "e": "5"}))
	for _, step := range []api.Pair{
		pair("z", ""), pair("y", "new"), pair("x", "gone"), pair("x", ""),
		pair("e", "9"), pair("d", "4"), pair("c", ""), pair("b", "no"), pair("b", "2"), pair("a", ""), pair("a", "1x"),
	} {
		wantErr(t, "Put", s.Put(step.Key, step.Value), api.OK)
	}
	s.Get("w")
	wantChanges(t, "all", s, changed("a", "1", "1x"), changed("c", "3", ""), changed("e", "5", "9"), changed("y", "", "new"))
	wantTouched(t, "all", s, "a", "b", "c", "d", "e", "w", "x", "y", "z")
}

func TestP7_12_NeverWritesIntoItsSource(t *testing.T) {
	eachSample(t, func(t *testing.T, x texts) {
		table := tableOf(x)
		s := stateOver(t, table)
		for i, key := range append(sayRising(x), "new") {
			if i%3 == 0 {
				s.Mark()
			}
			s.Put(key, []byte([]string{"", "other"}[i%2]))
			if i%10 == 9 {
				s.Back(i / 6)
			}
		}
		s.Changes()
		s.Touched()
		wantTable(t, "the source", table, x)
	})
}

func TestP7_12_TwoStates(t *testing.T) {
	table := tableOf(texts{"a": "1", "b": "2"})
	one, other := stateOver(t, table), stateOver(t, table)
	one.Put("a", []byte("x"))
	one.Mark()
	one.Put("b", nil)
	wantGet(t, "the other", other, "a", "1", api.OK)
	wantTouched(t, "the other", other, "a")
	wantErr(t, "the other's Back", other.Back(0), api.ErrStoreMark)
	other.Put("b", []byte("y"))
	other.Mark()
	wantErr(t, "Back", one.Back(0), api.OK)
	wantGet(t, "the other", other, "b", "y", api.OK)
	wantChanges(t, "the one", one, changed("a", "1", "x"))
	wantChanges(t, "the other", other, changed("b", "2", "y"))
	// What turns in the source is seen at keys of which it has not told yet, and at no others.
	table.Put("a", []byte("turned"))
	table.Put("c", []byte("turned"))
	wantGet(t, "told already", other, "a", "1", api.OK)
	wantGet(t, "not told yet", other, "c", "turned", api.OK)
	wantChanges(t, "the one", one, changed("a", "1", "x"))
}

// A state may be a source for another one, through a type that meets the interface.
type onward struct{ s *State }

func (o onward) Find(key string) ([]byte, api.Errno) { return o.s.Get(key) }

func TestP7_12_AStateOverAState(t *testing.T) {
	table := tableOf(texts{"a": "1", "b": "2"})
	below := stateOver(t, table)
	above := stateOver(t, onward{below})
	below.Put("a", []byte("x"))
	wantGet(t, "above", above, "a", "x", api.OK)
	above.Put("a", []byte("y"))
	above.Put("b", nil)
	wantGet(t, "below", below, "a", "x", api.OK)
	wantChanges(t, "below", below, changed("a", "1", "x"))
	wantChanges(t, "above", above, changed("a", "x", "y"), changed("b", "2", ""))
}

// moody is a source that tells or refuses by drawn chance, and spoils at each question all that it has handed out.
type moody struct {
	r     *rand.Rand
	out   [][]byte
	asked []string
}

func (m *moody) Find(key string) ([]byte, api.Errno) {
	m.asked = append(m.asked, key)
	for _, b := range m.out {
		spoil(b, byte(m.r.Intn(256)))
	}
	value := many(byte(m.r.Intn(256)), []int{0, 0, 1, 5, 4096, 4097}[m.r.Intn(6)])
	m.out = append(m.out, value)
	return value, []api.Errno{0, 0, 0, api.ErrStoreMissing, 7}[m.r.Intn(5)]
}

// drawnSteps takes the same steps in a state and in a row, and holds them against each other.
func drawnSteps(t *testing.T, r *rand.Rand, steps int, s *State, w *row) {
	t.Helper()
	for range steps {
		key := []string{"a", "b", "ab", "\x00", "\xff", "c", "d", "e", "", keyOf('k', 128), keyOf('k', 129)}[min(r.Intn(14), 10)]
		value := []string{"", "1", "2", "", drawnValue(r), string(many(3, 4096)), string(many(3, 4097))}[min(r.Intn(9), 6)]
		switch r.Intn(8) {
		case 0:
			if got, wanted := s.Mark(), w.mark(); got != wanted {
				t.Errorf("Mark: %d, not %d", got, wanted)
			}
		case 1:
			mark := r.Intn(len(w.marks)+2) - 1
			wantErr(t, "Back", s.Back(mark), w.back(mark))
		case 2, 3, 4:
			wantErr(t, "Put", s.Put(key, []byte(value)), w.put(key, value))
		default:
			wanted, e := w.get(key)
			wantGet(t, "drawn", s, key, wanted, e)
		}
		if r.Intn(10) == 0 {
			wantTouched(t, "drawn", s, w.touched()...)
			wantChanges(t, "drawn", s, w.changes()...)
		}
	}
	wantTouched(t, "at the end", s, w.touched()...)
	wantChanges(t, "at the end", s, w.changes()...)
}

func TestP7_9_DrawnOverMoodySources(t *testing.T) {
	for seed := range 150 {
		r := rand.New(rand.NewSource(int64(seed)))
		source := &moody{r: rand.New(rand.NewSource(int64(1000 + seed)))}
		same := &moody{r: rand.New(rand.NewSource(int64(1000 + seed)))}
		drawnSteps(t, r, 120, stateOver(t, source), rowOver(same))
		if !slices.Equal(source.asked, same.asked) {
			t.Errorf("seed %d: the source was asked %s, not %s", seed, brief(source.asked), brief(same.asked))
		}
	}
}

func TestP7_9_DrawnOverTables(t *testing.T) {
	for seed := range 100 {
		r := rand.New(rand.NewSource(int64(seed)))
		x := texts{"a": "1", "b": "2", "\xff": "3", keyOf('k', 128): drawnValue(r)}
		table := tableOf(x)
		drawnSteps(t, r, 120, stateOver(t, table), rowOver(table))
		wantTable(t, "the source", table, x)
	}
}

func TestR1_Nil(t *testing.T) {
	var x *Table
	var s *State
	for _, key := range []string{"a", "", keyOf('k', 129)} {
		wantFind(t, "a nil table", x, key, "", api.ErrArg)
		wantErr(t, "a nil table: Put", x.Put(key, many(1, 4097)), api.ErrArg)
		wantErr(t, "a nil table: Apply", x.Apply(laid(key, "1")), api.ErrArg)
		p, e := x.Prove(key)
		if !sameProof(p, api.Proof{}) || e != api.ErrArg {
			t.Errorf("a nil table: Prove: %x, %d", p, e)
		}
		wantGet(t, "a nil state", s, key, "", api.ErrArg)
		wantErr(t, "a nil state: Put", s.Put(key, many(1, 4097)), api.ErrArg)
	}
	wantErr(t, "a nil table: Apply of none", x.Apply(), api.ErrArg)
	b, e := x.Bytes()
	wantValue(t, "a nil table: Bytes", b, e, "", api.ErrArg)
	if x.Len() != 0 || x.Root() != (api.Digest{}) || x.Copy() != nil || x.All() == nil {
		t.Errorf("a nil table tells something")
	}
	for key := range x.All() {
		t.Errorf("a nil table tells %q", key)
	}
	wantErr(t, "a nil state: Back", s.Back(0), api.ErrArg)
	wantErr(t, "a nil state: Back(-1)", s.Back(-1), api.ErrArg)
	wantTouched(t, "a nil state", s)
	wantChanges(t, "a nil state", s)
	if s.Mark() != 0 {
		t.Errorf("a nil state: Mark")
	}
}

// What is kept of steps is no more than can be taken back.
func TestP7_10_NothingIsKeptThatCanNotComeBack(t *testing.T) {
	s := stateOver(t, NewTable())
	for i := range 100 {
		s.Put("a", []byte{byte(i)})
	}
	if len(s.steps) != 0 {
		t.Errorf("%d steps are kept ahead of the first mark", len(s.steps))
	}
	s.Mark()
	s.Put("a", []byte("x"))
	s.Back(0)
	if rest := s.steps[:cap(s.steps)]; len(s.steps) != 0 || slices.ContainsFunc(rest, func(p step) bool { return p.at != nil }) {
		t.Errorf("steps that were taken back are kept")
	}
	wantGet(t, "behind Back", s, "a", "c", api.OK)
}

func TestP7_9_KeysArePiecesOfATextAlone(t *testing.T) {
	great := strings.Repeat("abcdefgh", 100)
	x, s := NewTable(), stateOver(t, NewTable())
	for i := range 50 {
		x.Put(great[i:i+9], []byte{byte(i + 1)})
		s.Put(great[i:i+9], []byte{byte(i + 1)})
	}
	wanted := maps.Collect(x.All())
	for _, key := range s.Touched() {
		wantGet(t, "a piece", s, key, string(wanted[key]), api.OK)
	}
	if len(s.Touched()) != 8 || x.Len() != 8 {
		t.Errorf("%d and %d keys, not 8", len(s.Touched()), x.Len())
	}
}
