package wire

import (
	"bytes"
	"math"
	"math/big"
	"math/rand"
	"slices"
	"testing"

	"causeway/api"
)

const all = 1<<64 - 1

// laid is a writer to which some calls were made.
func laid(calls ...func(w *Writer)) *Writer {
	w := NewWriter()
	for _, call := range calls {
		call(w)
	}
	return w
}

func aByte(b byte) func(*Writer)      { return func(w *Writer) { w.Byte(b) } }
func aNumber(n int) func(*Writer)     { return func(w *Writer) { w.Number(n) } }
func aFlag(is bool) func(*Writer)     { return func(w *Writer) { w.Flag(is) } }
func theBytes(b []byte) func(*Writer) { return func(w *Writer) { w.Bytes(b) } }
func aWide(a api.Wide) func(*Writer)  { return func(w *Writer) { w.Wide(a) } }

// wantDone holds what a writer has against what is asked; beside a fault there must be no bytes.
func wantDone(t *testing.T, what string, w *Writer, wanted []byte, e api.Errno) {
	t.Helper()
	if b, f := w.Done(); !bytes.Equal(b, wanted) || f != e {
		t.Errorf("%s: %v, %d, not %v, %d", what, b, f, wanted, e)
	}
}

// wantAt holds a reader's place, fault and end against what is asked, twice: asking changes nothing.
func wantAt(t *testing.T, what string, r *Reader, at int, e, end api.Errno) {
	t.Helper()
	for range 2 {
		if r.At() != at || r.Err() != e || r.End() != end {
			t.Errorf("%s: at %d, %d, end %d, not %d, %d, %d", what, r.At(), r.Err(), r.End(), at, e, end)
		}
	}
}

// counted is n bytes, none of them alike with its neighbours.
func counted(n int) []byte {
	b := make([]byte, n)
	for i := range b {
		b[i] = byte(i*7 + i>>8 + 1)
	}
	return b
}

func digestOf(b byte) api.Digest   { return api.Digest(slices.Repeat([]byte{b}, 32)) }
func addressOf(b byte) api.Address { return api.Address(slices.Repeat([]byte{b}, 20)) }

// filled is a writer that has laid n bytes, one by one behind a great piece.
func filled(t *testing.T, n int) *Writer {
	t.Helper()
	w := laid(theBytes(make([]byte, n-104)))
	for range 100 {
		w.Byte(1)
	}
	if b, e := w.Done(); len(b) != n || e != api.OK {
		t.Fatalf("filled with %d: %d, %d", n, len(b), e)
	}
	return w
}

func TestErrorsNumbers(t *testing.T) {
	got := []api.Errno{api.ErrWireLong, api.ErrWireShort, api.ErrWireForm, api.ErrWireRest}
	if !slices.Equal(got, []api.Errno{30, 31, 32, 33}) {
		t.Errorf("errors' numbers: %d", got)
	}
}

func TestP3_1_Examples(t *testing.T) {
	wantDone(t, "a new one", NewWriter(), nil, api.OK)
	wantDone(t, "eleven bytes", laid(aNumber(0), aNumber(1), aNumber(256), aFlag(true), theBytes([]byte{7, 7})),
		[]byte{0, 1, 1, 2, 1, 0, 1, 1, 2, 7, 7}, api.OK)
	wantDone(t, "below 0", laid(aByte(9), aNumber(-1), aByte(9)), nil, api.ErrWireForm)
	wantDone(t, "the greatest", laid(aNumber(math.MaxInt64)), []byte{8, 127, 255, 255, 255, 255, 255, 255, 255}, api.OK)
	w := laid(theBytes(counted(1<<22 - 4)))
	wantDone(t, "as many as may be", w, append([]byte{3, 63, 255, 252}, counted(1<<22-4)...), api.OK)
	w.Byte(1)
	wantDone(t, "one byte more", w, nil, api.ErrWireLong)
}

func TestP3_1_Forms(t *testing.T) {
	for _, x := range []struct {
		what string
		call func(w *Writer)
		form []byte
	}{
		{"byte 0", aByte(0), []byte{0}},
		{"byte 255", aByte(255), []byte{255}},
		{"false", aFlag(false), []byte{0}},
		{"true", aFlag(true), []byte{1}},
		{"number 255", aNumber(255), []byte{1, 255}},
		{"number 65535", aNumber(65535), []byte{2, 255, 255}},
		{"number 65536", aNumber(65536), []byte{3, 1, 0, 0}},
		{"number 2^32", aNumber(1 << 32), []byte{5, 1, 0, 0, 0, 0}},
		{"number 2^56 - 1", aNumber(1<<56 - 1), []byte{7, 255, 255, 255, 255, 255, 255, 255}},
		{"number 2^56", aNumber(1 << 56), []byte{8, 1, 0, 0, 0, 0, 0, 0, 0}},
		{"number of unlike bytes", aNumber(0x0102030405060708), []byte{8, 1, 2, 3, 4, 5, 6, 7, 8}},
		{"no bytes", theBytes(nil), []byte{0}},
		{"empty bytes", theBytes([]byte{}), []byte{0}},
		{"a nought byte", theBytes([]byte{0}), []byte{1, 1, 0}},
		{"255 bytes", theBytes(counted(255)), append([]byte{1, 255}, counted(255)...)},
		{"256 bytes", theBytes(counted(256)), append([]byte{2, 1, 0}, counted(256)...)},
		{"wide 0", aWide(api.Wide{}), []byte{0}},
		{"wide 1", aWide(api.Wide{1}), []byte{1, 1}},
		{"wide 2^64", aWide(api.Wide{0, 1}), []byte{9, 1, 0, 0, 0, 0, 0, 0, 0, 0}},
		{"wide 2^64 - 1", aWide(api.Wide{all}), append([]byte{8}, slices.Repeat([]byte{255}, 8)...)},
		{"wide of 31 bytes", aWide(api.Wide{all, all, all, all >> 8}), append([]byte{31}, slices.Repeat([]byte{255}, 31)...)},
		{"wide 2^248", aWide(api.Wide{3: 1 << 56}), append([]byte{32, 1}, make([]byte, 31)...)},
		{"wide of 32 bytes", aWide(api.Wide{all, all, all, all}), append([]byte{32}, slices.Repeat([]byte{255}, 32)...)},
		{"wide of unlike bytes", aWide(api.Wide{0x191a1b1c1d1e1f20, 0x1112131415161718, 0x090a0b0c0d0e0f10, 0x0102030405060708}),
			[]byte{32, 1, 2, 3, 4, 5, 6, 7, 8, 9, 10, 11, 12, 13, 14, 15, 16, 17, 18, 19, 20, 21, 22, 23, 24, 25, 26, 27, 28, 29, 30, 31, 32}},
		{"a digest", func(w *Writer) { w.Digest(api.Digest(counted(32))) }, counted(32)},
		{"noughts", func(w *Writer) { w.Digest(api.Digest{}) }, make([]byte, 32)},
		{"an address", func(w *Writer) { w.Address(api.Address(counted(20))) }, counted(20)},
	} {
		wantDone(t, x.what, laid(x.call), x.form, api.OK)
		wantDone(t, x.what+" behind others", laid(aByte(7), x.call, aByte(8)), slices.Concat([]byte{7}, x.form, []byte{8}), api.OK)
	}
}

func TestP3_1_TheFirstFaultStays(t *testing.T) {
	values := []func(w *Writer){aByte(1), aFlag(true), aNumber(5), aNumber(0), aNumber(-1), theBytes(nil), theBytes([]byte{1}),
		theBytes(make([]byte, api.MaxBytes)), aWide(api.Wide{9}), func(w *Writer) { w.Digest(api.Digest{}) }, func(w *Writer) { w.Address(api.Address{}) }}
	below := []int{-1, -2, -256, math.MinInt64, math.MinInt64 + 1}
	for _, n := range below {
		wantDone(t, "below 0", laid(aNumber(n)), nil, api.ErrWireForm)
	}
	for i, value := range values {
		form := laid(aNumber(-1), value)
		wantDone(t, "behind ErrWireForm", form, nil, api.ErrWireForm)
		long := laid(theBytes(make([]byte, api.MaxBytes)), value)
		wantDone(t, "behind ErrWireLong", long, nil, api.ErrWireLong)
		if len(form.laid) != 0 || len(long.laid) != 0 {
			t.Errorf("value %d was laid behind a fault", i)
		}
	}
}

func TestP3_1_Full(t *testing.T) {
	const full = api.MaxBytes
	for _, x := range []struct {
		what string
		size int
		call func(w *Writer)
	}{
		{"Byte", 1, aByte(7)},
		{"Flag", 1, aFlag(true)},
		{"Number 0", 1, aNumber(0)},
		{"Number 300", 3, aNumber(300)},
		{"Number 2^63 - 1", 9, aNumber(math.MaxInt64)},
		{"Bytes of none", 1, theBytes(nil)},
		{"Bytes of three", 5, theBytes([]byte{1, 2, 3})},
		{"Wide 0", 1, aWide(api.Wide{})},
		{"Wide of 32 bytes", 33, aWide(api.Wide{3: all})},
		{"Digest", 32, func(w *Writer) { w.Digest(digestOf(1)) }},
		{"Address", 20, func(w *Writer) { w.Address(addressOf(1)) }},
	} {
		for over := -1; over <= 1; over++ {
			w := filled(t, full-x.size+over)
			x.call(w)
			b, e := w.Done()
			if over == 1 {
				if len(b) != 0 || e != api.ErrWireLong {
					t.Errorf("%s, one too many: %d, %d", x.what, len(b), e)
				}
				// Nothing of it was laid, and though a byte would have had room, none is laid any more.
				w.Byte(1)
				wantDone(t, x.what+", a byte behind the fault", w, nil, api.ErrWireLong)
			} else if len(b) != full+over || e != api.OK {
				t.Errorf("%s, %d: %d, %d", x.what, over, len(b), e)
			}
		}
	}
	w := filled(t, full)
	w.Number(-1)
	wantDone(t, "below 0, where nothing has room", w, nil, api.ErrWireForm)
}

func TestP3_1_BytesAtTheEdge(t *testing.T) {
	for _, x := range []struct {
		n int
		e api.Errno
	}{{api.MaxBytes - 5, api.OK}, {api.MaxBytes - 4, api.OK}, {api.MaxBytes - 3, api.ErrWireLong}, {api.MaxBytes, api.ErrWireLong}, {api.MaxBytes + 1, api.ErrWireLong}, {3 * api.MaxBytes, api.ErrWireLong}} {
		b, e := laid(theBytes(make([]byte, x.n))).Done()
		if e != x.e || e == api.OK && len(b) != x.n+4 || e != api.OK && len(b) != 0 {
			t.Errorf("Bytes of %d: %d, %d", x.n, len(b), e)
		}
	}
}

func TestP3_2_Done(t *testing.T) {
	w := laid(aNumber(5))
	wantDone(t, "once", w, []byte{1, 5}, api.OK)
	wantDone(t, "twice", w, []byte{1, 5}, api.OK)
	w.Byte(6)
	wantDone(t, "behind further values", w, []byte{1, 5, 6}, api.OK)
	w.Number(-1)
	wantDone(t, "with a fault", w, nil, api.ErrWireForm)
	wantDone(t, "with a fault, twice", w, nil, api.ErrWireForm)
	w.Byte(6)
	wantDone(t, "behind the fault", w, nil, api.ErrWireForm)
}

func TestP3_3_Lay(t *testing.T) {
	numbers := func(l ...int) func(w *Writer) {
		return func(w *Writer) { Lay(w, l, (*Writer).Number) }
	}
	wantDone(t, "two", laid(numbers(5, 300)), []byte{1, 2, 1, 5, 2, 1, 44}, api.OK)
	wantDone(t, "none", laid(numbers()), []byte{0}, api.OK)
	wantDone(t, "behind others", laid(aByte(9), numbers(0), aByte(9)), []byte{9, 1, 1, 0, 9}, api.OK)
	wantDone(t, "300", laid(numbers(make([]int, 300)...)), append([]byte{2, 1, 44}, make([]byte, 300)...), api.OK)
	lists := laid(func(w *Writer) {
		Lay(w, [][]string{{"a", "bc"}, nil}, func(w *Writer, l []string) {
			Lay(w, l, func(w *Writer, s string) { w.Bytes([]byte(s)) })
		})
	})
	wantDone(t, "lists in a list", lists, []byte{1, 2, 1, 2, 1, 1, 'a', 1, 2, 'b', 'c', 0}, api.OK)
	nothing := laid(func(w *Writer) { Lay(w, []int{1, 2}, func(*Writer, int) {}) })
	wantDone(t, "what one lays is its business", nothing, []byte{1, 2}, api.OK)
}

func TestP3_3_HowOftenOneIsCalled(t *testing.T) {
	for _, x := range []struct {
		what  string
		ahead func(w *Writer)
		list  []int
		asked []int
		e     api.Errno
	}{
		{"no fault", aByte(1), []int{1, 2, 3}, []int{1, 2, 3}, api.OK},
		{"nil", aByte(1), nil, nil, api.OK},
		{"a fault ahead", aNumber(-1), []int{1, 2, 3}, nil, api.ErrWireForm},
		{"another fault ahead", theBytes(make([]byte, api.MaxBytes)), []int{1, -2, 3}, nil, api.ErrWireLong},
		{"at the first", aByte(1), []int{-1, 2, 3}, []int{-1}, api.ErrWireForm},
		{"in the middle", aByte(1), []int{1, -2, 3}, []int{1, -2}, api.ErrWireForm},
		{"at the end", aByte(1), []int{1, 2, -3}, []int{1, 2, -3}, api.ErrWireForm},
		{"no room for the number", theBytes(make([]byte, api.MaxBytes-5)), []int{1, 2, 3}, nil, api.ErrWireLong},
		{"no room for the second", theBytes(make([]byte, api.MaxBytes-9)), []int{1, 2, 3}, []int{1, 2}, api.ErrWireLong},
		{"no number, no room", theBytes(make([]byte, api.MaxBytes-4)), nil, nil, api.ErrWireLong},
	} {
		var asked []int
		w := laid(x.ahead)
		Lay(w, x.list, func(v *Writer, n int) {
			asked = append(asked, n)
			if v != w {
				t.Errorf("%s: one was handed another writer", x.what)
			}
			v.Number(n)
		})
		if _, e := w.Done(); !slices.Equal(asked, x.asked) || e != x.e {
			t.Errorf("%s: asked %v, %d, not %v, %d", x.what, asked, e, x.asked, x.e)
		}
	}
}

func TestP3_3_Nil(t *testing.T) {
	w := laid(aByte(1))
	Lay(w, []int{1, 2}, nil)
	Lay[int](w, nil, nil)
	wantDone(t, "one is nil", w, []byte{1}, api.OK)
	asked := 0
	Lay(nil, []int{1, 2}, func(*Writer, int) { asked++ })
	Lay[int](nil, nil, nil)
	if asked != 0 {
		t.Errorf("w is nil: one was called %d times", asked)
	}
}

func TestP3_4_NewReader(t *testing.T) {
	wantAt(t, "of nil", NewReader(nil), 0, api.OK, api.OK)
	wantAt(t, "of empty", NewReader([]byte{}), 0, api.OK, api.OK)
	wantAt(t, "of one", NewReader([]byte{0}), 0, api.OK, api.ErrWireRest)
	b := []byte{1, 1, 2}
	r := NewReader(b[:2])
	b[1], b[2] = 9, 9
	if n := r.Number(); n != 1 {
		t.Errorf("what became of the bytes later is seen: %d", n)
	}
	wantAt(t, "spare room is not seen", r, 2, api.OK, api.OK)
}

func TestP3_4_TooLong(t *testing.T) {
	for _, n := range []int{api.MaxBytes - 1, api.MaxBytes} {
		r := NewReader(append(make([]byte, n-1), 7))
		wantAt(t, "as many as may be", r, 0, api.OK, api.ErrWireRest)
		for range n - 1 {
			r.Byte()
		}
		if b := r.Byte(); b != 7 {
			t.Errorf("the last of %d: %d", n, b)
		}
		wantAt(t, "at the end", r, n, api.OK, api.OK)
	}
	for _, n := range []int{api.MaxBytes + 1, 2 * api.MaxBytes} {
		r := NewReader(slices.Repeat([]byte{1}, n))
		wantAt(t, "too many", r, 0, api.ErrWireLong, api.ErrWireLong)
		wantNothing(t, "too many", r)
		wantAt(t, "too many, behind calls", r, 0, api.ErrWireLong, api.ErrWireLong)
	}
}

// wantNothing asks a reader with a fault for everything.
func wantNothing(t *testing.T, what string, r *Reader) {
	t.Helper()
	asked := 0
	one := func(*Reader) int { asked++; return 1 }
	if r.Byte() != 0 || r.Flag() || r.Number() != 0 || len(r.Bytes(9)) != 0 || r.Wide() != (api.Wide{}) ||
		r.Digest() != (api.Digest{}) || r.Address() != (api.Address{}) || len(List(r, 9, one)) != 0 || asked != 0 {
		t.Errorf("%s: something was answered behind a fault, or one was called (%d)", what, asked)
	}
}

// kind is a value of one kind: how it is taken, and what the words of the chapter say of bytes at which it is taken.
type kind struct {
	name string
	take func(r *Reader) any
	say  func(b []byte) (any, int, api.Errno)
}

func kinds() []kind {
	return []kind{
		{"Byte", func(r *Reader) any { return r.Byte() }, sayByte},
		{"Flag", func(r *Reader) any { return r.Flag() }, sayFlag},
		{"Number", func(r *Reader) any { return r.Number() }, sayNumber},
		{"Bytes(3)", func(r *Reader) any { return string(r.Bytes(3)) }, func(b []byte) (any, int, api.Errno) { return sayBytes(b, 3) }},
		{"Bytes(300)", func(r *Reader) any { return string(r.Bytes(300)) }, func(b []byte) (any, int, api.Errno) { return sayBytes(b, 300) }},
		{"Wide", func(r *Reader) any { return r.Wide() }, sayWide},
		{"Digest", func(r *Reader) any { return r.Digest() }, sayDigest},
		{"Address", func(r *Reader) any { return r.Address() }, sayAddress},
	}
}

func sayByte(b []byte) (any, int, api.Errno) {
	if len(b) < 1 {
		return byte(0), 0, api.ErrWireShort
	}
	return b[0], 1, api.OK
}

func sayFlag(b []byte) (any, int, api.Errno) {
	if len(b) < 1 {
		return false, 0, api.ErrWireShort
	}
	if b[0] > 1 {
		return false, 0, api.ErrWireForm
	}
	return b[0] == 1, 1, api.OK
}

// sayBig reckons by the library, from 0 to the greatest that may be.
func sayBig(b []byte, most int, top *big.Int) (*big.Int, int, api.Errno) {
	none := new(big.Int)
	if len(b) == 0 {
		return none, 0, api.ErrWireShort
	}
	k := int(b[0])
	if k > most {
		return none, 0, api.ErrWireForm
	}
	if len(b)-1 < k {
		return none, 0, api.ErrWireShort
	}
	x := new(big.Int).SetBytes(b[1 : 1+k])
	if len(x.Bytes()) != k || x.Cmp(top) > 0 {
		return none, 0, api.ErrWireForm
	}
	return x, 1 + k, api.OK
}

func sayNumber(b []byte) (any, int, api.Errno) {
	x, n, e := sayBig(b, 8, big.NewInt(math.MaxInt64))
	return int(x.Int64()), n, e
}

func sayWide(b []byte) (any, int, api.Errno) {
	x, n, e := sayBig(b, 32, new(big.Int).Lsh(big.NewInt(1), 256))
	return wideOf(x), n, e
}

func wideOf(x *big.Int) api.Wide {
	var a api.Wide
	for i := range a {
		a[i] = new(big.Int).And(new(big.Int).Rsh(x, uint(64*i)), new(big.Int).SetUint64(all)).Uint64()
	}
	return a
}

func sayBytes(b []byte, most int) (any, int, api.Errno) {
	x, n, e := sayNumber(b)
	if e != api.OK {
		return "", 0, e
	}
	if x.(int) > most {
		return "", 0, api.ErrWireLong
	}
	if x.(int) > len(b)-n {
		return "", 0, api.ErrWireShort
	}
	return string(b[n : n+x.(int)]), n + x.(int), api.OK
}

func sayDigest(b []byte) (any, int, api.Errno) {
	if len(b) < 32 {
		return api.Digest{}, 0, api.ErrWireShort
	}
	return api.Digest(b[:32]), 32, api.OK
}

func sayAddress(b []byte) (any, int, api.Errno) {
	if len(b) < 20 {
		return api.Address{}, 0, api.ErrWireShort
	}
	return api.Address(b[:20]), 20, api.OK
}

// checkOne holds one take against the words, with some bytes taken ahead of it, and asks what follows a fault.
func checkOne(t *testing.T, k kind, ahead int, b []byte) {
	t.Helper()
	r := NewReader(slices.Concat(make([]byte, ahead), b))
	for range ahead {
		r.Byte()
	}
	got := k.take(r)
	wanted, n, e := k.say(b)
	if got != wanted || r.At() != ahead+n || r.Err() != e {
		t.Errorf("%s of %v: %v, at %d, %d, not %v, %d, %d", k.name, b, got, r.At(), r.Err(), wanted, ahead+n, e)
	}
	if e != api.OK {
		wantNothing(t, k.name, r)
		wantAt(t, k.name+" behind its fault", r, ahead, e, e)
	} else if end := r.End(); (end == api.OK) != (n == len(b)) || end != api.OK && end != api.ErrWireRest {
		t.Errorf("%s of %v: end %d", k.name, b, end)
	}
}

func TestP3_5_Examples(t *testing.T) {
	r := NewReader([]byte{2, 1, 0, 5})
	if n := r.Number(); n != 256 {
		t.Errorf("256: %d", n)
	}
	wantAt(t, "256", r, 3, api.OK, api.ErrWireRest)
	if n := r.Number(); n != 0 {
		t.Errorf("k 5 and no byte: %d", n)
	}
	wantAt(t, "k 5 and no byte", r, 3, api.ErrWireShort, api.ErrWireShort)
	r = NewReader([]byte{1, 3, 7, 7, 7})
	if b := r.Bytes(3); !bytes.Equal(b, []byte{7, 7, 7}) {
		t.Errorf("three bytes: %v", b)
	}
	wantAt(t, "three bytes", r, 5, api.OK, api.OK)
	r = NewReader([]byte{0, 5})
	if a := r.Wide(); a != (api.Wide{}) || r.End() != api.ErrWireRest || r.Byte() != 5 || r.End() != api.OK {
		t.Errorf("behind ErrWireRest it goes on: %v", a)
	}
}

func TestP3_5_Faults(t *testing.T) {
	number := func(r *Reader) { r.Number() }
	wide := func(r *Reader) { r.Wide() }
	flag := func(r *Reader) { r.Flag() }
	some := func(most int) func(r *Reader) { return func(r *Reader) { r.Bytes(most) } }
	for _, x := range []struct {
		what string
		call func(r *Reader)
		b    []byte
		e    api.Errno
	}{
		{"no byte", func(r *Reader) { r.Byte() }, nil, api.ErrWireShort},
		{"no flag", flag, nil, api.ErrWireShort},
		{"flag 2", flag, []byte{2}, api.ErrWireForm},
		{"flag 255", flag, []byte{255}, api.ErrWireForm},
		{"no number", number, nil, api.ErrWireShort},
		{"k 9, and nothing behind it", number, []byte{9}, api.ErrWireForm},
		{"k 9, and all behind it", number, append([]byte{9}, counted(9)...), api.ErrWireForm},
		{"k 255", number, []byte{255}, api.ErrWireForm},
		{"k 8, and seven", number, []byte{8, 1, 1, 1, 1, 1, 1, 1}, api.ErrWireShort},
		{"a nought ahead", number, []byte{2, 0, 1}, api.ErrWireForm},
		{"a nought ahead, too short", number, []byte{2, 0}, api.ErrWireShort},
		{"one nought", number, []byte{1, 0}, api.ErrWireForm},
		{"2^63", number, []byte{8, 128, 0, 0, 0, 0, 0, 0, 0}, api.ErrWireForm},
		{"2^63, too short", number, []byte{8, 128, 0, 0, 0, 0, 0, 0}, api.ErrWireShort},
		{"2^64 - 1", number, append([]byte{8}, slices.Repeat([]byte{255}, 8)...), api.ErrWireForm},
		{"no wide number", wide, nil, api.ErrWireShort},
		{"k 33, and nothing behind it", wide, []byte{33}, api.ErrWireForm},
		{"k 33, and all behind it", wide, append([]byte{33}, counted(33)...), api.ErrWireForm},
		{"k 32, and 31", wide, append([]byte{32}, counted(31)...), api.ErrWireShort},
		{"wide, a nought ahead", wide, append([]byte{32, 0}, counted(31)...), api.ErrWireForm},
		{"wide, a nought ahead, too short", wide, append([]byte{32, 0}, counted(30)...), api.ErrWireShort},
		{"wide, one nought", wide, []byte{1, 0}, api.ErrWireForm},
		{"no bytes", some(9), nil, api.ErrWireShort},
		{"more than most", some(2), []byte{1, 3, 7, 7, 7}, api.ErrWireLong},
		{"more than most, and too short", some(2), []byte{1, 3, 7}, api.ErrWireLong},
		{"not so many", some(9), []byte{1, 3, 7, 7}, api.ErrWireShort},
		{"as many as most, and not so many", some(3), []byte{1, 3, 7, 7}, api.ErrWireShort},
		{"a number of no form", some(9), []byte{2, 0, 1, 7}, api.ErrWireForm},
		{"a number of no form, most 0", some(0), []byte{9}, api.ErrWireForm},
		{"a number that is too short, most 0", some(0), []byte{2, 1}, api.ErrWireShort},
		{"the greatest number", some(math.MaxInt64), []byte{8, 127, 255, 255, 255, 255, 255, 255, 255}, api.ErrWireShort},
		{"most below 0", some(-1), []byte{0}, api.ErrWireLong},
		{"most far below 0", some(math.MinInt64), []byte{1, 1, 7}, api.ErrWireLong},
		{"most below 0, no number", some(-1), nil, api.ErrWireShort},
		{"a digest of 31", func(r *Reader) { r.Digest() }, counted(31), api.ErrWireShort},
		{"an address of 19", func(r *Reader) { r.Address() }, counted(19), api.ErrWireShort},
	} {
		r := NewReader(x.b)
		x.call(r)
		wantAt(t, x.what, r, 0, x.e, x.e)
		wantNothing(t, x.what, r)
		wantAt(t, x.what+", behind calls", r, 0, x.e, x.e)
	}
}

func TestP3_5_AllShortTexts(t *testing.T) {
	for _, k := range kinds() {
		checkOne(t, k, 0, nil)
		for i := range 256 {
			checkOne(t, k, i%3, []byte{byte(i)})
			for j := range 256 {
				checkOne(t, k, 1, []byte{byte(i), byte(j)})
			}
		}
	}
}

func TestP3_5_EdgesOfNumbers(t *testing.T) {
	for _, k := range kinds() {
		for size := range 35 {
			for _, first := range []byte{0, 1, 127, 128, 255} {
				for _, rest := range []byte{0, 1, 255} {
					for have := range 36 {
						b := append([]byte{byte(size), first}, slices.Repeat([]byte{rest}, 40)...)
						checkOne(t, k, 2, b[:min(len(b), 1+have)])
					}
				}
			}
		}
	}
}

func TestP3_5_BytesOfManySizes(t *testing.T) {
	for _, n := range []int{0, 1, 2, 255, 256, 257, 65535, 65536, api.MaxBytes - 4} {
		b, e := laid(theBytes(counted(n))).Done()
		if e != api.OK {
			t.Fatalf("%d bytes: %d", n, e)
		}
		for _, most := range []int{n, n + 1, math.MaxInt64} {
			r := NewReader(b)
			if got := r.Bytes(most); !bytes.Equal(got, counted(n)) {
				t.Errorf("Bytes(%d) of %d: %d bytes", most, n, len(got))
			}
			wantAt(t, "bytes", r, len(b), api.OK, api.OK)
		}
		r := NewReader(b)
		if got := r.Bytes(n - 1); len(got) != 0 {
			t.Errorf("Bytes(%d) of %d: %d bytes", n-1, n, len(got))
		}
		wantAt(t, "one less than it is", r, 0, api.ErrWireLong, api.ErrWireLong)
	}
}

func TestP3_6_TheFirstFaultStays(t *testing.T) {
	r := NewReader([]byte{1, 5, 2, 1, 1, 1, 1, 1})
	r.Number()
	r.Flag()
	wantAt(t, "a flag 2", r, 2, api.ErrWireForm, api.ErrWireForm)
	wantNothing(t, "a flag 2", r)
	r.Digest()
	r.Bytes(0)
	wantAt(t, "too short, too long", r, 2, api.ErrWireForm, api.ErrWireForm)
}

func TestP3_7_End(t *testing.T) {
	r := NewReader([]byte{1, 0})
	wantAt(t, "at the beginning", r, 0, api.OK, api.ErrWireRest)
	if !r.Flag() {
		t.Error("behind ErrWireRest a flag is not taken")
	}
	wantAt(t, "in the middle", r, 1, api.OK, api.ErrWireRest)
	r.Flag()
	wantAt(t, "at the end", r, 2, api.OK, api.OK)
	r.Flag()
	wantAt(t, "beyond the end", r, 2, api.ErrWireShort, api.ErrWireShort)
}

func TestP3_8_Examples(t *testing.T) {
	r := NewReader([]byte{1, 2, 1, 0, 0})
	if l := List(r, 9, (*Reader).Flag); !slices.Equal(l, []bool{true, false}) {
		t.Errorf("two flags: %v", l)
	}
	wantAt(t, "two flags", r, 4, api.OK, api.ErrWireRest)
	for _, x := range []struct {
		b    []byte
		most int
		at   int
		e    api.Errno
	}{{[]byte{1, 9, 1}, 9, 0, api.ErrWireShort}, {[]byte{1, 9, 1}, 8, 0, api.ErrWireLong}, {[]byte{1, 2, 1, 7}, 9, 3, api.ErrWireForm}} {
		r := NewReader(x.b)
		if l := List(r, x.most, (*Reader).Flag); len(l) != 0 {
			t.Errorf("%v: %v", x.b, l)
		}
		wantAt(t, "a list with a fault", r, x.at, x.e, x.e)
	}
}

func TestP3_8_HowOftenOneIsCalled(t *testing.T) {
	for _, x := range []struct {
		what  string
		b     []byte
		ahead int
		most  int
		asked int
		list  []int
		at    int
		e     api.Errno
	}{
		{"none", []byte{0, 7}, 0, 0, 0, nil, 1, api.OK},
		{"three", []byte{1, 3, 0, 1, 1, 1, 2}, 0, 3, 3, []int{0, 1, 2}, 7, api.OK},
		{"behind others", []byte{9, 9, 1, 1, 1, 44, 7}, 2, 1, 1, []int{44}, 6, api.OK},
		{"as many as bytes are left", []byte{1, 3, 0, 0, 0}, 0, 9, 3, []int{0, 0, 0}, 5, api.OK},
		{"one more than bytes are left", []byte{1, 4, 0, 0, 0}, 0, 9, 0, nil, 0, api.ErrWireShort},
		{"one more than most", []byte{9, 1, 3, 0, 0, 0}, 1, 2, 0, nil, 1, api.ErrWireLong},
		{"more than most and than is left", []byte{1, 3}, 0, 2, 0, nil, 0, api.ErrWireLong},
		{"most below 0", []byte{0}, 0, -1, 0, nil, 0, api.ErrWireLong},
		{"no number", []byte{9}, 1, 9, 0, nil, 1, api.ErrWireShort},
		{"a number of no form, most below 0", []byte{1, 0, 1}, 0, -1, 0, nil, 0, api.ErrWireForm},
		{"a number of no form", []byte{2, 0, 1}, 0, 9, 0, nil, 0, api.ErrWireForm},
		{"the greatest number", append([]byte{8, 127}, slices.Repeat([]byte{255}, 7)...), 0, math.MaxInt64, 0, nil, 0, api.ErrWireShort},
		{"a fault at the first", []byte{1, 3, 9, 0, 0}, 0, 9, 1, nil, 2, api.ErrWireForm},
		{"a fault in the middle", []byte{1, 3, 0, 9, 0}, 0, 9, 2, nil, 3, api.ErrWireForm},
		{"a fault at the end", []byte{1, 3, 0, 0, 9}, 0, 9, 3, nil, 4, api.ErrWireForm},
		{"too short at the end", []byte{1, 3, 0, 1, 7, 1}, 0, 9, 3, nil, 5, api.ErrWireShort},
	} {
		r := NewReader(x.b)
		for range x.ahead {
			r.Byte()
		}
		asked := 0
		l := List(r, x.most, func(s *Reader) int {
			asked++
			if s != r {
				t.Errorf("%s: one was handed another reader", x.what)
			}
			return s.Number()
		})
		if asked != x.asked || !slices.Equal(l, x.list) || r.At() != x.at || r.Err() != x.e {
			t.Errorf("%s: asked %d, %v, at %d, %d, not %d, %v, %d, %d", x.what, asked, l, r.At(), r.Err(), x.asked, x.list, x.at, x.e)
		}
	}
}

func TestP3_8_OneThatTakesNothing(t *testing.T) {
	asked := 0
	r := NewReader([]byte{1, 3, 7, 7, 7})
	l := List(r, 3, func(*Reader) int { asked++; return asked })
	if !slices.Equal(l, []int{1, 2, 3}) {
		t.Errorf("one that takes nothing: %v", l)
	}
	wantAt(t, "one that takes nothing", r, 2, api.OK, api.ErrWireRest)
}

func TestP3_8_FaultAhead(t *testing.T) {
	asked := 0
	r := NewReader([]byte{2, 1, 1, 1})
	r.Flag()
	if l := List(r, 9, func(*Reader) int { asked++; return 1 }); len(l) != 0 || asked != 0 {
		t.Errorf("a fault ahead: %v, asked %d", l, asked)
	}
	wantAt(t, "a fault ahead", r, 0, api.ErrWireForm, api.ErrWireForm)
}

func TestP3_8_Nil(t *testing.T) {
	r := NewReader([]byte{1, 1, 7})
	asked := 0
	if l := List[int](r, 9, nil); len(l) != 0 {
		t.Errorf("one is nil: %v", l)
	}
	wantAt(t, "one is nil", r, 0, api.OK, api.ErrWireRest)
	if l := List(nil, 9, func(*Reader) int { asked++; return 1 }); len(l) != 0 || asked != 0 {
		t.Errorf("r is nil: %v, asked %d", l, asked)
	}
	if l := List[int](nil, 9, nil); len(l) != 0 {
		t.Errorf("both are nil: %v", l)
	}
}

func TestP3_8_ListsInLists(t *testing.T) {
	r := NewReader([]byte{1, 2, 1, 2, 1, 5, 0, 0})
	l := List(r, 2, func(r *Reader) []int { return List(r, 2, (*Reader).Number) })
	if len(l) != 2 || !slices.Equal(l[0], []int{5, 0}) || len(l[1]) != 0 {
		t.Errorf("lists in a list: %v", l)
	}
	wantAt(t, "lists in a list", r, 8, api.OK, api.OK)
	// The inner list's number is above its most: its place stays there, and nothing is answered by either.
	r = NewReader([]byte{1, 2, 1, 1, 1, 5, 1, 3, 0, 0, 0})
	if l := List(r, 2, func(r *Reader) []int { return List(r, 2, (*Reader).Number) }); len(l) != 0 {
		t.Errorf("a fault in an inner list: %v", l)
	}
	wantAt(t, "a fault in an inner list", r, 6, api.ErrWireLong, api.ErrWireLong)
}

// TestP3_8_GreatNumber: a list's number alone costs no room, however great a thing is.
func TestP3_8_GreatNumber(t *testing.T) {
	type great [1 << 20]byte
	b := append([]byte{3, 63, 0, 0}, make([]byte, 63<<16)...)
	b[4] = 9
	if l := List(NewReader(b), math.MaxInt64, func(r *Reader) great { r.Number(); return great{} }); len(l) != 0 {
		t.Errorf("a list of great things: %d", len(l))
	}
}

// value is one that was laid: how it is laid, and how it is taken and held against it.
type value struct {
	lay  func(w *Writer)
	same func(r *Reader) bool
}

// scattered is a value of some kind, often at an edge.
func scattered(g *rand.Rand, deep int) value {
	switch g.Intn(8) {
	case 0:
		b := byte(g.Intn(256))
		return value{aByte(b), func(r *Reader) bool { return r.Byte() == b }}
	case 1:
		is := g.Intn(2) == 1
		return value{aFlag(is), func(r *Reader) bool { return r.Flag() == is }}
	case 2:
		n := int(g.Uint64() >> (1 + g.Intn(63)))
		return value{aNumber(n), func(r *Reader) bool { return r.Number() == n }}
	case 3:
		b := counted(g.Intn(300))
		return value{theBytes(b), func(r *Reader) bool { return bytes.Equal(r.Bytes(len(b)), b) }}
	case 4:
		var a api.Wide
		for i := range g.Intn(5) {
			a[i] = g.Uint64() >> g.Intn(64)
		}
		return value{aWide(a), func(r *Reader) bool { return r.Wide() == a }}
	case 5:
		d := digestOf(byte(g.Intn(256)))
		return value{func(w *Writer) { w.Digest(d) }, func(r *Reader) bool { return r.Digest() == d }}
	case 6:
		a := addressOf(byte(g.Intn(256)))
		return value{func(w *Writer) { w.Address(a) }, func(r *Reader) bool { return r.Address() == a }}
	}
	return scatteredList(g, deep)
}

func scatteredList(g *rand.Rand, deep int) value {
	var l []value
	for range g.Intn(4) {
		if deep > 0 {
			l = append(l, scattered(g, deep-1))
		}
	}
	lay := func(w *Writer) {
		Lay(w, l, func(w *Writer, x value) { x.lay(w) })
	}
	same := func(r *Reader) bool {
		i := -1
		got := List(r, len(l), func(r *Reader) bool { i++; return l[i].same(r) })
		return len(got) == len(l) && !slices.Contains(got, false)
	}
	return value{lay, same}
}

func TestP3_9_Back(t *testing.T) {
	g := rand.New(rand.NewSource(3))
	for range 5000 {
		w := NewWriter()
		var l []value
		for range g.Intn(12) {
			x := scattered(g, 3)
			x.lay(w)
			l = append(l, x)
		}
		b, e := w.Done()
		if e != api.OK {
			t.Fatalf("laid: %d", e)
		}
		r := NewReader(b)
		for i, x := range l {
			if !x.same(r) {
				t.Fatalf("value %d of %v was not taken off again", i, b)
			}
		}
		wantAt(t, "all taken off", r, len(b), api.OK, api.OK)
	}
}

func TestP3_9_NumbersBack(t *testing.T) {
	for i := range 63 {
		for _, n := range []int{1<<i - 1, 1 << i, 1<<i + 1, math.MaxInt64 - 1<<i} {
			b, e := laid(aNumber(n)).Done()
			r := NewReader(b)
			if got := r.Number(); e != api.OK || got != n || r.End() != api.OK {
				t.Errorf("%d: %v, %d, then %d", n, b, e, got)
			}
		}
	}
	for i := range 256 {
		p := new(big.Int).Lsh(big.NewInt(1), uint(i))
		for _, a := range []api.Wide{wideOf(p), wideOf(new(big.Int).Sub(p, big.NewInt(1)))} {
			b, e := laid(aWide(a)).Done()
			r := NewReader(b)
			if got := r.Wide(); e != api.OK || got != a || r.End() != api.OK {
				t.Errorf("%x: %v, %d, then %x", a, b, e, got)
			}
		}
	}
}

// checkAgain takes from bytes what some choices say, as long as there is no fault, and writes it once more.
func checkAgain(t *testing.T, choices, b []byte) {
	t.Helper()
	r, w := NewReader(b), NewWriter()
	for _, c := range choices {
		at := r.At()
		again := takeOne(r, c)
		if r.Err() != api.OK {
			if c%8 != 7 && r.At() != at {
				t.Fatalf("kind %d of %v: the place went on from %d to %d at a fault", c%8, b, at, r.At())
			}
			break
		}
		again(w)
		got, e := w.Done()
		if e != api.OK || !bytes.Equal(got, b[:r.At()]) {
			t.Fatalf("kind %d of %v: written again %v, %d, not %v", c%8, b, got, e, b[:r.At()])
		}
	}
}

// takeOne takes a value, and tells how it is laid again.
func takeOne(r *Reader, c byte) func(w *Writer) {
	switch c % 8 {
	case 0:
		return aByte(r.Byte())
	case 1:
		return aFlag(r.Flag())
	case 2:
		return aNumber(r.Number())
	case 3:
		return theBytes(r.Bytes(int(c)))
	case 4:
		return aWide(r.Wide())
	case 5:
		d := r.Digest()
		return func(w *Writer) { w.Digest(d) }
	case 6:
		a := r.Address()
		return func(w *Writer) { w.Address(a) }
	}
	l := List(r, int(c), (*Reader).Wide)
	return func(w *Writer) { Lay(w, l, (*Writer).Wide) }
}

func TestP3_10_OneForm(t *testing.T) {
	g := rand.New(rand.NewSource(10))
	for range 20000 {
		b, choices := make([]byte, g.Intn(80)), make([]byte, g.Intn(20))
		g.Read(choices)
		for i := range b {
			b[i] = byte(g.Intn(1 << g.Intn(9)))
		}
		checkAgain(t, choices, b)
	}
}

func TestP3_10_NoFormBeginsAnother(t *testing.T) {
	var numbers, wides, texts [][]byte
	for i := range 700 {
		numbers = append(numbers, mustLay(t, aNumber(i*i*i*i*i)))
		wides = append(wides, mustLay(t, aWide(api.Wide{uint64(i), uint64(i) >> 2, uint64(i) >> 5, uint64(i) >> 7})))
		texts = append(texts, mustLay(t, theBytes(counted(i))))
	}
	for _, forms := range [][][]byte{numbers, wides, texts} {
		for i, a := range forms {
			for j, b := range forms {
				if i != j && bytes.HasPrefix(b, a) {
					t.Errorf("%v is the beginning of %v", a, b)
				}
			}
		}
	}
}

func mustLay(t *testing.T, call func(w *Writer)) []byte {
	t.Helper()
	b, e := laid(call).Done()
	if e != api.OK {
		t.Fatalf("laid: %d", e)
	}
	return b
}

// scribble writes over a list and its spare room.
func scribble(b []byte) {
	b = b[:cap(b)]
	for i := range b {
		b[i] = 0xee
	}
}

func TestP3_11_DoneIsNewMemory(t *testing.T) {
	for _, n := range []int{0, 1, 2, 7, 8, 9, 31, 32, 33, 1000} {
		w := NewWriter()
		var wanted []byte
		for i := range n {
			w.Byte(byte(i))
			wanted = append(wanted, byte(i))
			a, _ := w.Done()
			b, _ := w.Done()
			scribble(a)
			if !bytes.Equal(b, wanted) {
				t.Fatalf("two answers of Done share memory: %v", b)
			}
			scribble(b)
			wantDone(t, "what was answered is written over", w, wanted, api.OK)
		}
		before, _ := w.Done()
		w.Byte(9)
		if !bytes.Equal(before, wanted) {
			t.Errorf("what Done answered was changed by a further value: %v", before)
		}
	}
}

func TestP3_11_BytesIsNewMemory(t *testing.T) {
	b := []byte{1, 3, 7, 8, 9, 1, 2, 5, 6, 3}
	r := NewReader(b)
	first := r.Bytes(3)
	scribble(first)
	second := r.Bytes(3)
	if !bytes.Equal(second, []byte{5, 6}) {
		t.Errorf("Bytes shares memory with the reader: %v", second)
	}
	scribble(second)
	if r.Byte() != 3 || !bytes.Equal(b, []byte{1, 3, 7, 8, 9, 1, 2, 5, 6, 3}) {
		t.Errorf("Bytes shares memory with the reader, or with what it was handed: %v", b)
	}
	lists := List(NewReader([]byte{1, 2, 1, 2, 7, 7, 1, 1, 8}), 2, func(r *Reader) []byte { return r.Bytes(9) })
	scribble(lists[0])
	if !bytes.Equal(lists[1], []byte{8}) {
		t.Errorf("two lists of one answer share memory: %v", lists)
	}
}

func TestP3_11_WhatIsHandedInStays(t *testing.T) {
	whole := []byte{1, 2, 3, 4, 5, 6, 7, 8}
	w := NewWriter()
	w.Bytes(whole[:3])
	w.Bytes(whole[:0])
	w.Byte(9)
	r := NewReader(whole[:3])
	r.Number()
	numbers := []int{1, 2, 3, 4}
	Lay(w, numbers[:2], (*Writer).Number)
	w.Number(7)
	if !bytes.Equal(whole, []byte{1, 2, 3, 4, 5, 6, 7, 8}) || !slices.Equal(numbers, []int{1, 2, 3, 4}) {
		t.Errorf("what was handed in was changed: %v, %v", whole, numbers)
	}
	clear(whole)
	clear(numbers)
	wantDone(t, "what was handed in was kept", w, []byte{1, 3, 1, 2, 3, 0, 9, 1, 2, 1, 1, 1, 2, 1, 7}, api.OK)
	if b := r.Byte(); b != 3 {
		t.Errorf("what was handed in was kept: %d", b)
	}
}

func TestP3_11_NothingInCommon(t *testing.T) {
	v, w := NewWriter(), NewWriter()
	for i := range 100 {
		v.Byte(byte(i))
		w.Byte(byte(100 + i))
	}
	w.Number(-1)
	v.Byte(7)
	if b, e := v.Done(); e != api.OK || len(b) != 101 || b[0] != 0 || b[99] != 99 || b[100] != 7 {
		t.Errorf("two writers: %v, %d", b, e)
	}
	b := []byte{1, 5, 2}
	r, s := NewReader(b), NewReader(b)
	r.Number()
	r.Flag()
	wantAt(t, "the other reader", s, 0, api.OK, api.ErrWireRest)
	if n := s.Number(); n != 5 {
		t.Errorf("the other reader: %d", n)
	}
	wantAt(t, "this reader", r, 2, api.ErrWireForm, api.ErrWireForm)
}

func TestR1_NilReceivers(t *testing.T) {
	var w *Writer
	for _, call := range []func(w *Writer){aByte(1), aFlag(true), aNumber(1), aNumber(-1), theBytes([]byte{1}), aWide(api.Wide{1}),
		func(w *Writer) { w.Digest(api.Digest{1}) }, func(w *Writer) { w.Address(api.Address{1}) }} {
		call(w)
	}
	wantDone(t, "a nil writer", w, nil, api.ErrArg)
	var r *Reader
	wantNothing(t, "a nil reader", r)
	wantAt(t, "a nil reader", r, 0, api.ErrArg, api.ErrArg)
}

// TestR1_APanicOfOneIsNoFault: what a handed in function panics with is not taken for a fault of the bytes.
func TestR1_APanicOfOneIsNoFault(t *testing.T) {
	r := NewReader([]byte{1, 1, 7})
	func() {
		defer func() {
			if why := recover(); why != "mine" {
				t.Errorf("the panic became %v", why)
			}
		}()
		List(r, 9, func(*Reader) int { panic("mine") })
	}()
	wantAt(t, "behind a panic of one", r, 2, api.OK, api.ErrWireRest)
}

func FuzzAgain(f *testing.F) {
	f.Add([]byte{2, 3, 4, 1}, []byte{2, 1, 0, 1, 2, 7, 7, 1, 9, 1})
	f.Add([]byte{15, 0, 5}, []byte{1, 2, 1, 0, 0, 7})
	f.Add([]byte{6, 5}, make([]byte, 52))
	f.Fuzz(func(t *testing.T, choices, b []byte) {
		checkAgain(t, choices, b)
		for _, k := range kinds() {
			checkOne(t, k, 1, b)
		}
	})
}

func BenchmarkWriter(b *testing.B) {
	for b.Loop() {
		w := NewWriter()
		for i := range 1000 {
			w.Number(i)
			w.Wide(api.Wide{uint64(i), 1})
		}
		w.Done()
	}
}

func BenchmarkReader(b *testing.B) {
	w := NewWriter()
	for i := range 1000 {
		w.Number(i)
	}
	bytes, _ := w.Done()
	for b.Loop() {
		r := NewReader(bytes)
		for range 1000 {
			r.Number()
		}
	}
}
