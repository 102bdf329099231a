package store

import (
	"bytes"
	"fmt"
	"maps"
	"math/rand"
	"slices"
	"testing"
	"unsafe"

	"causeway/api"
	"causeway/sparse"
)

func TestP7_13_WhateverTheOrder(t *testing.T) {
	r := rand.New(rand.NewSource(13))
	eachSample(t, func(t *testing.T, x texts) {
		root := x.root()
		for round := range 4 {
			table := NewTable()
			keys := sayRising(x)
			r.Shuffle(len(keys), func(i, j int) { keys[i], keys[j] = keys[j], keys[i] })
			for i, key := range keys {
				// What is put and taken away meanwhile must leave nothing behind.
				table.Put(key+"?", []byte("meanwhile"))
				table.Put(key, []byte("another"))
				if round%2 == 0 && i%7 == 0 {
					table.Root()
				}
				table.Put(key, nil)
			}
			for i, key := range keys {
				table.Put(key, []byte(x[key]))
				if round > 1 && i%5 == 0 {
					table.Root()
				}
			}
			for _, key := range keys {
				if _, is := x[key+"?"]; !is {
					table.Put(key+"?", nil)
				}
			}
			if got := table.Root(); got != root {
				t.Errorf("Root in another order: %x, not %x", got, root)
			}
			wantHas(t, "in another order", table, x)
		}
	})
}

func TestP7_13_EveryOrderOfFour(t *testing.T) {
	x := texts{"a": "1", "ab": "2", "\x00": "3", "b": "1"}
	root := x.root()
	var turn func(done, rest []string)
	turn = func(done, rest []string) {
		if len(rest) == 0 {
			early, late := NewTable(), NewTable()
			for _, key := range done {
				early.Put(key, []byte(x[key]))
				early.Root()
				late.Put(key, []byte(x[key]))
			}
			if early.Root() != root || late.Root() != root {
				t.Errorf("the order %q has another root", done)
			}
		}
		for i := range rest {
			turn(append(slices.Clone(done), rest[i]), slices.Delete(slices.Clone(rest), i, i+1))
		}
	}
	turn(nil, sayRising(x))
}

// allTables are all that have none or one of two values at each of some keys.
func allTables(keys ...string) []texts {
	all := []texts{{}}
	for _, key := range keys {
		for _, x := range slices.Clone(all) {
			for _, value := range []string{"1", "\x01\x01"} {
				with := maps.Clone(x)
				with[key] = value
				all = append(all, with)
			}
		}
	}
	return all
}

func TestP7_13_OneRootOneTable(t *testing.T) {
	roots := map[api.Digest]int{}
	all := allTables("a", "b", "ab", "1", "\x00")
	for i, x := range all {
		root := tableOf(x).Root()
		if at, is := roots[root]; is {
			t.Errorf("two tables have one root: %q and %q", all[at], x)
		}
		roots[root] = i
	}
	if len(all) != 243 {
		t.Errorf("%d tables", len(all))
	}
}

// The promise's other case is that of two unlike texts with one digest; which texts are digested for a root is by the words: keys, values, and texts of 65 bytes. That the program's roots are these, the tests of P7.4 tell; so what is left is that unlike tables part in one of these texts.

func TestP7_14_ApplyOfChanges(t *testing.T) {
	eachSample(t, func(t *testing.T, x texts) {
		for seed := range 8 {
			r := rand.New(rand.NewSource(int64(seed)))
			table := tableOf(x)
			s := stateOver(t, table)
			keys := append(sayRising(x), "new", "newer", "not laid")
			for range 100 {
				key := keys[r.Intn(len(keys))]
				switch r.Intn(6) {
				case 0:
					s.Mark()
				case 1:
					s.Back(r.Intn(6))
				case 2:
					s.Get(key)
				default:
					s.Put(key, []byte([]string{"", "1", x[key], drawnValue(r)}[r.Intn(4)]))
				}
			}
			behind := table.Copy()
			wantErr(t, "Apply of Changes", behind.Apply(s.Changes()...), api.OK)
			wanted := texts{}
			for _, key := range keys {
				value, e := s.Get(key)
				wantErr(t, "Get", e, api.OK)
				wanted.put(key, string(value))
			}
			wantTable(t, "the copy", behind, wanted)
			wantTable(t, "the table", table, x)
		}
	})
}

func TestP7_14_BackBringsBack(t *testing.T) {
	keys := []string{"a", "b", "ab", "\x00", "\xff", "c", "d"}
	tells := func(s *State) texts {
		now := texts{}
		for _, key := range keys {
			value, _ := s.Get(key)
			now[key] = string(value)
		}
		return now
	}
	for seed := range 60 {
		r := rand.New(rand.NewSource(int64(seed)))
		s := stateOver(t, tableOf(texts{"a": "1", "b": "2", "\xff": "3"}))
		var told []texts
		for range 150 {
			switch r.Intn(6) {
			case 0:
				if m := s.Mark(); m != len(told) {
					t.Errorf("Mark: %d, not %d", m, len(told))
				}
				told = append(told, tells(s))
			case 1:
				if len(told) == 0 {
					continue
				}
				mark := r.Intn(len(told))
				wantErr(t, "Back", s.Back(mark), api.OK)
				told = told[:mark+1]
				if got := tells(s); !maps.Equal(got, told[mark]) {
					t.Errorf("behind Back(%d): %q, not %q", mark, got, told[mark])
				}
			default:
				s.Put(keys[r.Intn(len(keys))], []byte([]string{"", "1", "2", "3", "4"}[r.Intn(5)]))
			}
		}
	}
}

func TestP7_15_ThereAndBack(t *testing.T) {
	r := rand.New(rand.NewSource(15))
	eachSample(t, func(t *testing.T, x texts) {
		table := tableOf(x)
		b, e := table.Bytes()
		wantErr(t, "Bytes", e, api.OK)
		again, e := Read(b)
		wantErr(t, "Read", e, api.OK)
		wantTable(t, "Read of Bytes", again, x)
		// What was read goes on as any other table.
		now := maps.Clone(x)
		for range 20 {
			key, value := drawnKey(r, 30), []string{"", drawnValue(r)}[r.Intn(2)]
			wantErr(t, "Put", again.Put(key, []byte(value)), now.put(key, value))
		}
		wantTable(t, "behind Puts", again, now)
		wantTable(t, "the table that was written", table, x)
	})
}

// knownOf is what a table has at some keys, as Open of chapter 5 wants it.
func knownOf(x texts, keys []string) []api.Bound {
	values := map[api.Digest]api.Digest{}
	for _, key := range keys {
		if value, is := x[key]; is {
			values[sha([]byte(key))] = sha([]byte(value))
		}
	}
	var known []api.Bound
	for _, d := range digestsOf(keys) {
		known = append(known, api.Bound{Key: d, Value: values[d]})
	}
	return known
}

func TestP7_16_OpenTakesProofs(t *testing.T) {
	r := rand.New(rand.NewSource(16))
	eachSample(t, func(t *testing.T, x texts) {
		for _, keys := range asks(r, x) {
			table := tableOf(x)
			proof, e := table.Prove(keys...)
			wantErr(t, "Prove", e, api.OK)
			known := knownOf(x, keys)
			part, e := sparse.Open(table.Root(), proof, known...)
			if e != api.OK {
				t.Errorf("Open of the proof of %s: %d", brief(keys), e)
				continue
			}
			// Other values there lead to the root of the table with these.
			now := maps.Clone(x)
			for i, key := range keys {
				value := []string{"", "other", "\x00"}[i%3]
				table.Put(key, []byte(value))
				now.put(key, value)
				at := api.Digest{}
				if value != "" {
					at = sha([]byte(value))
				}
				wantErr(t, "Put of the Part", part.Put(sha([]byte(key)), at), api.OK)
			}
			if part.Root() != table.Root() || part.Root() != now.root() {
				t.Errorf("behind Puts at %s the roots part", brief(keys))
			}
		}
	})
}

func TestP7_16_OpenTakesNothingElse(t *testing.T) {
	x := texts{"a": "1", "b": "2", "c": "3"}
	table := tableOf(x)
	for _, key := range []string{"a", "c", "not there"} {
		proof, _ := table.Prove(key)
		for _, value := range []api.Digest{{}, sha([]byte("1")), sha([]byte("3")), sha([]byte("4"))} {
			known := api.Bound{Key: sha([]byte(key)), Value: value}
			wanted := api.OK
			if known != knownOf(x, []string{key})[0] {
				wanted = api.ErrSparseProof
			}
			_, e := sparse.Open(table.Root(), proof, known)
			wantErr(t, fmt.Sprintf("Open with %x at %s", value, key), e, wanted)
		}
	}
}

// roomy is the same list with room behind it that must stay as it is; the look tells whether list and room did.
func roomy[T any](list []T, spare ...T) ([]T, func() bool) {
	whole := slices.Concat(list, spare)
	was := fmt.Sprint(whole)
	return whole[:len(list)], func() bool { return fmt.Sprint(whole) == was }
}

// spoil fills a list and its spare room.
func spoil[T any](list []T, with T) {
	list = list[:cap(list)]
	for i := range list {
		list[i] = with
	}
}

func TestR4_TablesKeepNothing(t *testing.T) {
	for _, size := range []int{1, 2, 3, 31, 32, 33, 100, 4095, 4096} {
		for _, rooted := range []bool{false, true} {
			x := NewTable()
			if rooted {
				x.Root()
			}
			wanted := texts{"a": string(many(5, size)), "b": string(many(6, size))}
			a, sameA := roomy(many(5, size), 8, 9)
			b, sameB := roomy(many(6, size), 8, 9)
			old, sameOld := roomy([]byte{1, 2}, 8, 9)
			changes, sameChanges := roomy([]api.Change{{Key: "b", Old: old, New: b}}, laid("spare", "room"))
			wantErr(t, "Put", x.Put("a", a), api.OK)
			wantErr(t, "Apply", x.Apply(changes...), api.OK)
			if !sameA() || !sameB() || !sameOld() || !sameChanges() {
				t.Errorf("what was handed in has changed")
			}
			spoil(a, 99)
			spoil(b, 99)
			spoil(old, 99)
			spoil(changes, laid("c", "99"))
			wantTable(t, "behind spoiling", x, wanted)
		}
	}
}

// A text can not be changed, but by those who know its memory; so it is seen here that a key is not kept.
func TestR4_KeysAreNotKept(t *testing.T) {
	source := alwaysTells("has")
	x, s := NewTable(), stateOver(t, source)
	var handed [][]byte
	hand := func(key string) string {
		b := []byte(key)
		handed = append(handed, b)
		return unsafe.String(&b[0], len(b))
	}
	for _, value := range []string{"1", "2"} {
		wantErr(t, "Put", x.Put(hand("key"), []byte(value)), api.OK)
		wantErr(t, "Apply", x.Apply(laid(hand("other"), value)), api.OK)
		wantErr(t, "Put of a state", s.Put(hand("key"), []byte(value)), api.OK)
		wantGet(t, "a state", s, hand("asked"), "has", api.OK)
	}
	for _, b := range handed {
		spoil(b, 'x')
	}
	wantTable(t, "behind spoiling", x, texts{"key": "2", "other": "2"})
	wantGet(t, "behind spoiling", s, "key", "2", api.OK)
	wantTouched(t, "behind spoiling", s, "asked", "key")
	if len(source.asked) != 2 {
		t.Errorf("the source was asked again: %d", len(source.asked))
	}
}

func TestR4_ProveLeavesTheKeys(t *testing.T) {
	keys, same := roomy([]string{"c", "a", "c", "b"}, "spare", "room")
	table := tableOf(texts{"a": "1", "b": "2"})
	first, e := table.Prove(keys...)
	wantErr(t, "Prove", e, api.OK)
	if !same() {
		t.Errorf("the keys that were handed in have changed")
	}
	spoil(keys, "z")
	if second, _ := table.Prove("a", "b", "c"); !sameProof(first, second) {
		t.Errorf("Prove hangs on what became of the keys")
	}
}

func TestR4_ReadKeepsNothing(t *testing.T) {
	eachSample(t, func(t *testing.T, x texts) {
		wanted, _ := x.bytes()
		b, same := roomy(wanted, 1, 2, 3)
		table, e := Read(b)
		wantErr(t, "Read", e, api.OK)
		if !same() {
			t.Errorf("the bytes that were handed in have changed")
		}
		spoil(b, 99)
		wantTable(t, "behind spoiling", table, x)
	})
}

func TestR4_TablesAnswerNewMemory(t *testing.T) {
	eachSample(t, func(t *testing.T, x texts) {
		table := tableOf(x)
		copied := table.Copy()
		every := table.All()
		for _, key := range append(sayRising(x), "not there") {
			one, _ := table.Find(key)
			two, _ := table.Find(key)
			spoil(one, 99)
			wantValue(t, "the other Find", two, api.OK, x[key], api.OK)
		}
		var told []api.Pair
		for key, value := range every {
			told = append(told, api.Pair{Key: key, Value: value})
		}
		for i := range told {
			spoil(told[i].Value, 99)
			told[i].Value = []byte(x[told[i].Key])
		}
		if !samePairs(told, x.pairs()) {
			t.Errorf("All tells other pairs")
		}
		for key, value := range every {
			wantValue(t, "All again", value, api.OK, x[key], api.OK)
		}
		b, _ := table.Bytes()
		spoil(b, 99)
		for _, keys := range [][]string{nil, {"a"}, {"a", "not there"}} {
			kept, _ := table.Prove(keys...)
			one, _ := table.Prove(keys...)
			spoil(one.Marks, 99)
			spoil(one.Sides, api.Digest{9})
			if again, _ := table.Prove(keys...); !sameProof(again, kept) {
				t.Errorf("Prove answers what was spoilt")
			}
		}
		wantTable(t, "behind spoiling", table, x)
		wantTable(t, "a copy behind spoiling", copied, x)
	})
}

func TestR4_StatesKeepNothingAndAnswerNewMemory(t *testing.T) {
	for _, size := range []int{1, 2, 8, 33, 4096} {
		has, lies := string(many(5, size)), string(many(6, size))
		table := tableOf(texts{"a": has, "b": has})
		s := stateOver(t, table)
		s.Mark()
		value, same := roomy([]byte(lies), 8, 9)
		wantErr(t, "Put", s.Put("a", value), api.OK)
		if !same() {
			t.Errorf("what was handed in has changed")
		}
		spoil(value, 99)
		wantGet(t, "behind spoiling", s, "a", lies, api.OK)
		for _, key := range []string{"a", "b"} {
			one, _ := s.Get(key)
			two, _ := s.Get(key)
			spoil(one, 99)
			wantValue(t, "the other Get", two, api.OK, map[string]string{"a": lies, "b": has}[key], api.OK)
		}
		changes := s.Changes()
		spoil(changes[0].Old, 99)
		wantValue(t, "New behind Old", changes[0].New, api.OK, lies, api.OK)
		spoil(changes[0].New, 99)
		spoil(changes, laid("z", "99"))
		touched := s.Touched()
		spoil(touched, "z")
		wantTouched(t, "behind spoiling", s, "a", "b")
		wantChanges(t, "behind spoiling", s, changed("a", has, lies))
		wantErr(t, "Back", s.Back(0), api.OK)
		wantGet(t, "taken back", s, "a", has, api.OK)
		wantTable(t, "the source", table, texts{"a": has, "b": has})
	}
}

// What is the same as a value that the source has is told twice in a change's row: neither may share memory with the other.
func TestR4_NoTwoListsOfOneAnswer(t *testing.T) {
	s := stateOver(t, tableOf(texts{"a": "1", "b": "2"}))
	shared := []byte("same")
	s.Put("a", shared)
	s.Put("b", shared)
	s.Put("c", shared)
	changes := s.Changes()
	for i := range changes {
		spoil(changes[i].New, 99)
		for j := range changes[i+1:] {
			if !bytes.Equal(changes[i+1+j].New, shared) {
				t.Errorf("two changes share memory")
			}
		}
	}
	wantGet(t, "behind spoiling", s, "a", "same", api.OK)
}

func TestR3_Refused(t *testing.T) {
	x := samples()["thirty"]
	table := tableOf(x)
	for range 2 {
		table.Put("", []byte("1"))
		table.Put("a", many(1, 4097))
		table.Apply(laid("a", "1"), laid("b", ""), laid("c", string(many(1, 4097))))
		table.Prove("a", "")
		wantTable(t, "behind refusals", table, x)
	}
}

// What is told does not hang on the order in which a map is gone through: many times the same.
func TestR5_TheSameEachTime(t *testing.T) {
	x := samples()["hundreds"]
	first, _ := tableOf(x).Bytes()
	for range 20 {
		table := tableOf(x)
		b, _ := table.Bytes()
		s := stateOver(t, table)
		for key := range x {
			s.Put(key, nil)
		}
		if !bytes.Equal(b, first) || !slices.Equal(s.Touched(), sayRising(x)) || len(s.Changes()) != len(x) {
			t.Fatalf("it is told otherwise")
		}
	}
}

// FuzzAgainstTheWords reads any bytes as a table, and takes them as steps.
func FuzzAgainstTheWords(f *testing.F) {
	for _, x := range samples() {
		if b, _ := x.bytes(); len(b) < 2000 {
			f.Add(b)
		}
	}
	f.Add([]byte("\x53\x01\x02\x01\x01a\x01\x01\x01\x01\x01b\x01\x02\x02\x02"))
	f.Fuzz(func(t *testing.T, b []byte) {
		wantReadAsSaid(t, "fuzz", b)
		x := texts{}
		if read, e := sayRead(b); e == api.OK {
			x = read
		}
		table, now := tableOf(x), maps.Clone(x)
		s, w := stateOver(t, table.Copy()), rowOver(tableOf(x))
		for len(b) >= 3 {
			key, value := string(b[:b[0]%3]), string(b[1:1+b[1]%3])
			switch b[0] % 7 {
			case 0:
				wantErr(t, "Put", table.Put(key, []byte(value)), now.put(key, value))
			case 1:
				changes := []api.Change{laid(key, value), laid(value, key)}
				wantErr(t, "Apply", table.Apply(changes...), now.apply(changes...))
			case 2:
				wantRoot(t, "fuzz", table, now)
			case 3:
				s.Mark()
				w.mark()
			case 4:
				wantErr(t, "Back", s.Back(int(b[1]%8)-1), w.back(int(b[1]%8)-1))
			case 5:
				wantErr(t, "Put of a state", s.Put(key, []byte(value)), w.put(key, value))
			default:
				wanted, e := w.get(key)
				wantGet(t, "fuzz", s, key, wanted, e)
			}
			b = b[2:]
		}
		wantTable(t, "at the end", table, now)
		wantTouched(t, "at the end", s, w.touched()...)
		wantChanges(t, "at the end", s, w.changes()...)
	})
}

func BenchmarkPutAndRoot(b *testing.B) {
	table := tableOf(drawnTexts(rand.New(rand.NewSource(1)), 10000))
	table.Root()
	for i := 0; b.Loop(); i++ {
		table.Put("key", []byte{byte(i), 1})
		table.Root()
	}
}

func BenchmarkRootOfAll(b *testing.B) {
	x := drawnTexts(rand.New(rand.NewSource(1)), 10000)
	for b.Loop() {
		tableOf(x).Root()
	}
}

func BenchmarkStatePut(b *testing.B) {
	s, _ := Over(tableOf(drawnTexts(rand.New(rand.NewSource(1)), 10000)))
	s.Mark()
	for i := 0; b.Loop(); i++ {
		s.Put("key", []byte{byte(i), 1})
		if i%1000 == 0 {
			s.Back(0)
		}
	}
}

func BenchmarkRead(b *testing.B) {
	x := drawnTexts(rand.New(rand.NewSource(1)), 10000)
	text, _ := x.bytes()
	for b.Loop() {
		Read(text)
	}
}
