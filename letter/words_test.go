package letter

import (
	"bytes"
	"math/big"
	"reflect"
	"slices"

	"causeway/api"
)

// The second reckoning: which fields a kind uses is the chapter's table, by their names; a field is found by its name, too. A scribe writes numbers by the library's great ones; a cutter cuts bytes off, and gives up at the first thing that is not as the words say. The limits are written out, not taken from api.

// words are what the chapter says of letters, or of entries.
type words struct {
	uses  map[int][]string
	mayBe map[string]func(v any) bool
}

func whatever(any) bool { return true }

// from tells whether a number is from low to high; of a list, or bytes, its length counts.
func from(low, high int) func(v any) bool {
	return func(v any) bool {
		n, is := v.(int)
		if !is {
			n = reflect.ValueOf(v).Len()
		}
		return low <= n && n <= high
	}
}

func ofLetters() words {
	return words{
		uses: map[int][]string{
			1:  {"Token", "To", "Amount"},
			2:  {"Token", "To", "Amount"},
			3:  {"Token", "To", "Amount"},
			4:  {"Token", "From", "To", "Amount"},
			5:  {"Number"},
			6:  {"Number"},
			7:  {"Token"},
			8:  {"Token"},
			9:  {"Token"},
			10: {"Code"},
			11: {"Token", "Amount", "Number", "Gas", "Args"},
			12: {"Parts"},
		},
		mayBe: map[string]func(v any) bool{
			"Token": from(0, 63), "From": whatever, "To": whatever, "Amount": whatever, "Number": from(1, 1<<40),
			"Gas": from(1, 10000), "Args": from(0, 8), "Code": from(1, 1024), "Parts": sayParts,
		},
	}
}

func ofEntries() words {
	return words{
		uses: map[int][]string{
			1: {"Sender", "Time", "Token", "To", "Amount", "Gas"},
			2: {"Sender", "Time", "Body"},
		},
		mayBe: map[string]func(v any) bool{
			"Sender": whatever, "Time": from(0, 1<<62), "Token": from(0, 63), "To": whatever,
			"Amount": func(v any) bool { return v != api.Wide{} }, "Gas": from(0, 1<<40), "Body": from(0, 4096),
		},
	}
}

func sayParts(v any) bool {
	parts := v.([]api.Letter)
	gas := new(big.Int)
	for _, p := range parts {
		if p.Kind == 12 || sayCheck(p) != api.OK {
			return false
		}
		gas.Add(gas, big.NewInt(int64(p.Gas)))
	}
	return from(1, 8)(parts) && gas.Cmp(big.NewInt(10000)) <= 0
}

// isNone tells whether a value is zero, or a list of none.
func isNone(v reflect.Value) bool {
	return v.IsZero() || v.Kind() == reflect.Slice && v.Len() == 0
}

// fit tells whether a kind may be, and whether each field may.
func (s words) fit(x any) (kind, fields bool) {
	v := reflect.ValueOf(x)
	used, kind := s.uses[int(v.FieldByName("Kind").Int())]
	fields = true
	for name, mayBe := range s.mayBe {
		f := v.FieldByName(name)
		if slices.Contains(used, name) {
			fields = fields && mayBe(f.Interface())
		} else {
			fields = fields && isNone(f)
		}
	}
	return kind, fields
}

func sayCheck(l api.Letter) api.Errno {
	switch kind, fields := ofLetters().fit(l); {
	case !kind:
		return 61
	case !fields:
		return 62
	}
	return 0
}

func sayCheckEntry(e api.Entry) api.Errno {
	if kind, fields := ofEntries().fit(e); !kind || !fields {
		return 63
	}
	return 0
}

// scribe writes forms; the number that is the wrong-th (from 0 on) has a nought ahead that it does not need.
type scribe struct {
	b       []byte
	written int
	wrong   int
}

func (s *scribe) number(digits []byte) {
	if s.written == s.wrong {
		digits = append([]byte{0}, digits...)
	}
	s.written++
	s.b = append(append(s.b, byte(len(digits))), digits...)
}

func (s *scribe) count(n int) { s.number(big.NewInt(int64(n)).Bytes()) }

func (s *scribe) bytes(b []byte) {
	s.count(len(b))
	s.b = append(s.b, b...)
}

func (s *scribe) value(v any) {
	switch x := v.(type) {
	case int:
		s.count(x)
	case api.Address:
		s.b = append(s.b, x[:]...)
	case api.Wide:
		s.number(bigOf(x).Bytes())
	case []byte:
		s.bytes(x)
	case []api.Wide:
		s.count(len(x))
		for _, a := range x {
			s.value(a)
		}
	case []api.Letter:
		s.count(len(x))
		for _, part := range x {
			// How many bytes the part has is laid ahead of it, so it is written aside first.
			length := s.written
			aside := &scribe{written: length + 1, wrong: s.wrong}
			aside.all(ofLetters(), part)
			s.bytes(aside.b)
			s.written = aside.written
		}
	}
}

func (s *scribe) all(w words, x any) {
	v := reflect.ValueOf(x)
	kind := int(v.FieldByName("Kind").Int())
	s.b = append(s.b, byte(kind))
	for _, name := range w.uses[kind] {
		s.value(v.FieldByName(name).Interface())
	}
}

func bigOf(a api.Wide) *big.Int {
	x := new(big.Int)
	for i := 3; i >= 0; i-- {
		x.Lsh(x, 64).Add(x, new(big.Int).SetUint64(a[i]))
	}
	return x
}

func wideOf(x *big.Int) api.Wide {
	var a api.Wide
	for i, b := range x.FillBytes(make([]byte, 32)) {
		a[3-i/8] = a[3-i/8]<<8 + uint64(b)
	}
	return a
}

// written are the bytes of a letter or an entry that fits.
func written(w words, x any) []byte {
	s := &scribe{wrong: -1}
	s.all(w, x)
	return s.b
}

// wideForms are the bytes of a letter or an entry, with each of its numbers once written in a byte more than it needs.
func wideForms(w words, x any) [][]byte {
	right := &scribe{wrong: -1}
	right.all(w, x)
	var all [][]byte
	for i := range right.written {
		s := &scribe{wrong: i}
		s.all(w, x)
		all = append(all, s.b)
	}
	return all
}

func sayLetterBytes(l api.Letter) ([]byte, api.Errno) {
	if e := sayCheck(l); e != 0 {
		return nil, e
	}
	if b := written(ofLetters(), l); len(b) <= 4096 {
		return b, 0
	}
	return nil, 30
}

func sayEntryBytes(e api.Entry) ([]byte, api.Errno) {
	if fault := sayCheckEntry(e); fault != 0 {
		return nil, fault
	}
	return written(ofEntries(), e), 0
}

// cutter cuts forms off bytes.
type cutter struct{ b []byte }

type noForm struct{}

func (c *cutter) cut(n int) []byte {
	if n > len(c.b) {
		panic(noForm{})
	}
	head := c.b[:n]
	c.b = c.b[n:]
	return head
}

func (c *cutter) number(most int) *big.Int {
	k := int(c.cut(1)[0])
	x := new(big.Int).SetBytes(c.cut(k))
	if k > most || len(x.Bytes()) != k {
		panic(noForm{})
	}
	return x
}

func (c *cutter) count() int {
	x := c.number(8)
	if !x.IsInt64() {
		panic(noForm{})
	}
	return int(x.Int64())
}

// value cuts a value of the same type off.
func (c *cutter) value(like any) any {
	switch like.(type) {
	case int:
		return c.count()
	case api.Address:
		return api.Address(c.cut(20))
	case api.Wide:
		return wideOf(c.number(32))
	case []byte:
		return bytes.Clone(c.cut(c.count()))
	case []api.Wide:
		var l []api.Wide
		for range c.count() {
			l = append(l, c.value(api.Wide{}).(api.Wide))
		}
		return l
	}
	var l []api.Letter
	for range c.count() {
		part, e := sayRead(c.cut(c.count()))
		if e != 0 {
			panic(noForm{})
		}
		l = append(l, part)
	}
	return l
}

// cutAll fills what x points to from bytes, and tells whether it could, and whether nothing is left.
func cutAll(w words, b []byte, x any) (is bool) {
	defer func() {
		if why := recover(); why != nil {
			if why != (noForm{}) {
				panic(why)
			}
			is = false
		}
	}()
	c := &cutter{b}
	v := reflect.ValueOf(x).Elem()
	kind := int(c.cut(1)[0])
	v.FieldByName("Kind").SetInt(int64(kind))
	for _, name := range w.uses[kind] {
		f := v.FieldByName(name)
		f.Set(reflect.ValueOf(c.value(f.Interface())))
	}
	return len(c.b) == 0
}

func sayRead(b []byte) (api.Letter, api.Errno) {
	var l api.Letter
	if len(b) > 4096 || !cutAll(ofLetters(), b, &l) || sayCheck(l) != 0 {
		return api.Letter{}, 60
	}
	return l, 0
}

func sayReadEntry(b []byte) (api.Entry, api.Errno) {
	var e api.Entry
	if !cutAll(ofEntries(), b, &e) || sayCheckEntry(e) != 0 {
		return api.Entry{}, 63
	}
	return e, 0
}

// alike tells whether two values are the same in every field; lists of none are one.
func alike(a, b any) bool {
	return alikeValues(reflect.ValueOf(a), reflect.ValueOf(b))
}

func alikeValues(a, b reflect.Value) bool {
	switch a.Kind() {
	case reflect.Struct:
		for i := range a.NumField() {
			if !alikeValues(a.Field(i), b.Field(i)) {
				return false
			}
		}
		return true
	case reflect.Slice:
		if a.Len() != b.Len() {
			return false
		}
		for i := range a.Len() {
			if !alikeValues(a.Index(i), b.Index(i)) {
				return false
			}
		}
		return true
	}
	return a.Interface() == b.Interface()
}
