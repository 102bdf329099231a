package wide

import (
	"bytes"
	"math/big"
	"math/rand"
	"slices"
	"strings"
	"testing"

	"causeway/api"
)

const (
	all        = 1<<64 - 1
	topText    = "115792089237316195423570985008687907853269984665640564039457584007913129639935"
	beyondText = "115792089237316195423570985008687907853269984665640564039457584007913129639936"
)

func top() api.Wide { return api.Wide{all, all, all, all} }

// power is 2^n.
func power(n int) api.Wide {
	var a api.Wide
	a[n/64] = 1 << (n % 64)
	return a
}

// big2 is 2^n by the library.
func big2(n uint) *big.Int { return new(big.Int).Lsh(big.NewInt(1), n) }

// toBig reckons by the words of the chapter: the i-th part times 2^(64 i).
func toBig(a api.Wide) *big.Int {
	sum := new(big.Int)
	for i, part := range a {
		sum.Add(sum, new(big.Int).Mul(new(big.Int).SetUint64(part), big2(uint(64*i))))
	}
	return sum
}

func ofBig(x *big.Int) api.Wide {
	var a api.Wide
	for i := range a {
		low := new(big.Int).And(new(big.Int).Rsh(x, uint(64*i)), new(big.Int).SetUint64(all))
		a[i] = low.Uint64()
	}
	return a
}

// known is x with OK, or the error that is asked for what is no number.
func known(x *big.Int) (api.Wide, api.Errno) {
	if x.Sign() < 0 {
		return api.Wide{}, api.ErrWideUnder
	}
	if x.Cmp(big2(256)) >= 0 {
		return api.Wide{}, api.ErrWideOver
	}
	return ofBig(x), api.OK
}

// edges are the numbers that the document names and their neighbours.
func edges() []api.Wide {
	var l []api.Wide
	for _, n := range []uint{0, 1, 63, 64, 65, 127, 128, 129, 191, 192, 193, 254, 255, 256} {
		for _, d := range []int64{-2, -1, 0, 1, 2} {
			x := new(big.Int).Add(big2(n), big.NewInt(d))
			if a, e := known(x); e == api.OK {
				l = append(l, a)
			}
		}
	}
	return append(l, Of(3), Of(5), Of(10), Of(17), Of(255), api.Wide{tenTo19 - 1}, api.Wide{tenTo19}, api.Wide{tenTo19 + 1})
}

// corners are all numbers whose parts are at an edge of a part.
func corners() []api.Wide {
	p := []uint64{0, 1, 1 << 63, all}
	var l []api.Wide
	for i := range 256 {
		l = append(l, api.Wide{p[i&3], p[i>>2&3], p[i>>4&3], p[i>>6&3]})
	}
	return l
}

// scattered gives numbers of every length, many with parts of all bits or of none.
func scattered(r *rand.Rand) api.Wide {
	var a api.Wide
	for i := range 1 + r.Intn(4) {
		switch r.Intn(5) {
		case 0:
			a[i] = all - uint64(r.Intn(3))
		case 1:
			a[i] = uint64(r.Intn(3))
		case 2:
			a[i] = 1<<63 + uint64(r.Intn(3)) - 1
		case 3:
			a[i] = r.Uint64() >> r.Intn(64)
		default:
			a[i] = r.Uint64()
		}
	}
	return a
}

func want(t *testing.T, what string, got api.Wide, e api.Errno, wanted api.Wide, f api.Errno) {
	t.Helper()
	if got != wanted || e != f {
		t.Errorf("%s: %x, %d, not %x, %d", what, got, e, wanted, f)
	}
}

// checkSums holds Add, Sub and Mul against the library.
func checkSums(t *testing.T, a, b api.Wide) {
	t.Helper()
	for _, x := range []struct {
		name  string
		call  func(a, b api.Wide) (api.Wide, api.Errno)
		exact func(z, x, y *big.Int) *big.Int
	}{{"Add", Add, (*big.Int).Add}, {"Sub", Sub, (*big.Int).Sub}, {"Mul", Mul, (*big.Int).Mul}} {
		got, e := x.call(a, b)
		wanted, f := known(x.exact(new(big.Int), toBig(a), toBig(b)))
		if got != wanted || e != f {
			t.Errorf("%s(%x, %x): %x, %d, not %x, %d", x.name, a, b, got, e, wanted, f)
		}
	}
}

func checkDiv(t *testing.T, a, b api.Wide) {
	t.Helper()
	q, r, e := Div(a, b)
	if b == (api.Wide{}) {
		if q != (api.Wide{}) || r != (api.Wide{}) || e != api.ErrWideZero {
			t.Errorf("Div(%x, nought): %x, %x, %d", a, q, r, e)
		}
		return
	}
	wantQ, wantR := new(big.Int).QuoRem(toBig(a), toBig(b), new(big.Int))
	if q != ofBig(wantQ) || r != ofBig(wantR) || e != api.OK {
		t.Errorf("Div(%x, %x): %x, %x, %d, not %x, %x", a, b, q, r, e, wantQ, wantR)
	}
}

func checkMulDiv(t *testing.T, a, b, c api.Wide) {
	t.Helper()
	got, e := MulDiv(a, b, c)
	wanted, f := api.Wide{}, api.ErrWideZero
	if c != (api.Wide{}) {
		product := new(big.Int).Mul(toBig(a), toBig(b))
		wanted, f = known(product.Quo(product, toBig(c)))
	}
	if got != wanted || e != f {
		t.Errorf("MulDiv(%x, %x, %x): %x, %d, not %x, %d", a, b, c, got, e, wanted, f)
	}
}

func TestP2_1_Of(t *testing.T) {
	for _, n := range []uint64{0, 1, 7, 255, 1 << 32, 1 << 63, all} {
		if a := Of(n); a != (api.Wide{n, 0, 0, 0}) {
			t.Errorf("Of(%d): %v", n, a)
		}
	}
}

func TestP2_2_Examples(t *testing.T) {
	sum, e := Add(top(), Of(0))
	want(t, "Add(M, 0)", sum, e, top(), api.OK)
	sum, e = Add(top(), Of(1))
	want(t, "Add(M, 1)", sum, e, api.Wide{}, api.ErrWideOver)
	sum, e = Add(Of(all), Of(1))
	want(t, "Add(2^64 - 1, 1)", sum, e, api.Wide{0, 1, 0, 0}, api.OK)
	less, e := Sub(power(128), Of(1))
	want(t, "Sub(2^128, 1)", less, e, api.Wide{all, all, 0, 0}, api.OK)
	less, e = Sub(Of(3), Of(4))
	want(t, "Sub(3, 4)", less, e, api.Wide{}, api.ErrWideUnder)
	product, e := Mul(power(128), power(127))
	want(t, "Mul(2^128, 2^127)", product, e, power(255), api.OK)
	product, e = Mul(power(128), power(128))
	want(t, "Mul(2^128, 2^128)", product, e, api.Wide{}, api.ErrWideOver)
}

func TestP2_2_CarriesAndBorrowsThroughEveryPart(t *testing.T) {
	for _, x := range []struct{ a, b, sum api.Wide }{
		{api.Wide{all}, api.Wide{1}, api.Wide{0, 1}},
		{api.Wide{all, all}, api.Wide{1}, api.Wide{0, 0, 1}},
		{api.Wide{all, all, all}, api.Wide{1}, api.Wide{0, 0, 0, 1}},
		{api.Wide{0, all}, api.Wide{0, 1}, api.Wide{0, 0, 1}},
		{api.Wide{0, all, all}, api.Wide{0, 1}, api.Wide{0, 0, 0, 1}},
		{api.Wide{0, 0, all}, api.Wide{0, 0, 1}, api.Wide{0, 0, 0, 1}},
		{api.Wide{all, all, all, 5}, api.Wide{all, all, all, 7}, api.Wide{all - 1, all, all, 13}},
		{api.Wide{all, 0, all, 0}, api.Wide{1, 0, 1, 0}, api.Wide{0, 1, 0, 1}},
	} {
		sum, e := Add(x.a, x.b)
		want(t, "Add", sum, e, x.sum, api.OK)
		sum, e = Add(x.b, x.a)
		want(t, "Add, turned", sum, e, x.sum, api.OK)
		less, e := Sub(x.sum, x.b)
		want(t, "Sub", less, e, x.a, api.OK)
		less, e = Sub(x.sum, x.a)
		want(t, "Sub, turned", less, e, x.b, api.OK)
	}
}

func TestP2_2_BelowAtAndAbove(t *testing.T) {
	over := api.ErrWideOver
	for _, x := range []struct {
		a, b, sum api.Wide
		e         api.Errno
	}{
		{power(255), ofBig(new(big.Int).Sub(big2(255), big.NewInt(1))), top(), api.OK},
		{power(255), power(255), api.Wide{}, over},
		{power(255), api.Wide{1, 0, 0, 1 << 63}, api.Wide{}, over},
		{top(), top(), api.Wide{}, over},
		{api.Wide{0, 0, 0, all}, api.Wide{all, all, all, 0}, top(), api.OK},
		{api.Wide{0, 0, 0, all}, api.Wide{0, 0, 0, 1}, api.Wide{}, over},
	} {
		sum, e := Add(x.a, x.b)
		want(t, "Add", sum, e, x.sum, x.e)
	}
	for _, x := range []struct {
		a, b, product api.Wide
		e             api.Errno
	}{
		{Of(3), api.Wide{all / 3, all / 3, all / 3, all / 3}, top(), api.OK},           // 2^256 - 1
		{api.Wide{all, all}, api.Wide{1, 0, 1}, top(), api.OK},                         // (2^128 - 1)(2^128 + 1)
		{Of(2), power(255), api.Wide{}, over},                                          // 2^256
		{power(64), power(192), api.Wide{}, over},                                      // 2^256
		{api.Wide{all, all}, api.Wide{2, 0, 1}, api.Wide{}, over},                      // just above
		{api.Wide{all, all}, api.Wide{all, all}, api.Wide{1, 0, all - 1, all}, api.OK}, // (2^128 - 1)^2
		{top(), Of(2), api.Wide{}, over},                                               // the low half has bits too
		{top(), top(), api.Wide{}, over},
		{api.Wide{0, 1}, api.Wide{1, 0, 0, 1}, api.Wide{}, over},       // by the highest part alone
		{api.Wide{0, 0, 0, 1}, api.Wide{0, 0, 0, 1}, api.Wide{}, over}, // 2^384
		{Of(all), Of(all), api.Wide{1, all - 1}, api.OK},
		{api.Wide{all, all, all}, Of(all), api.Wide{1, all, all, all - 1}, api.OK},
		{Of(0), top(), api.Wide{}, api.OK},
		{Of(1), top(), top(), api.OK},
		{api.Wide{0, 0, 0, 1 << 32}, Of(1 << 31), api.Wide{0, 0, 0, 1 << 63}, api.OK},
		{api.Wide{0, 0, 0, 1 << 32}, Of(1 << 32), api.Wide{}, over},
		{api.Wide{all, all, all, 1<<32 - 1}, Of(1 << 32), api.Wide{1<<64 - 1<<32, all, all, all}, api.OK}, // 2^256 - 2^32
	} {
		product, e := Mul(x.a, x.b)
		want(t, "Mul", product, e, x.product, x.e)
		product, e = Mul(x.b, x.a)
		want(t, "Mul, turned", product, e, x.product, x.e)
	}
}

func TestP2_2_AgainstTheLibrary(t *testing.T) {
	for _, l := range [][]api.Wide{edges(), corners()} {
		for _, a := range l {
			for _, b := range l {
				checkSums(t, a, b)
			}
		}
	}
	r := rand.New(rand.NewSource(2))
	for range 20000 {
		a, b := scattered(r), scattered(r)
		checkSums(t, a, b)
	}
}

func TestP2_3_Examples(t *testing.T) {
	for _, x := range []struct {
		a, b, q, r api.Wide
		e          api.Errno
	}{
		{Of(17), Of(5), Of(3), Of(2), api.OK},
		{top(), top(), Of(1), Of(0), api.OK},
		{top(), Of(0), Of(0), Of(0), api.ErrWideZero},
		{Of(0), Of(0), Of(0), Of(0), api.ErrWideZero},
		{Of(0), Of(1), Of(0), Of(0), api.OK},
		{Of(4), Of(5), Of(0), Of(4), api.OK},
		{Of(5), Of(5), Of(1), Of(0), api.OK},
		{Of(6), Of(5), Of(1), Of(1), api.OK},
		{top(), Of(1), top(), Of(0), api.OK},
		{top(), power(255), Of(1), api.Wide{all, all, all, all >> 1}, api.OK},
		{api.Wide{5, 0, 0, 1 << 63}, power(128), api.Wide{0, 1 << 63}, Of(5), api.OK},
	} {
		q, r, e := Div(x.a, x.b)
		want(t, "the quotient", q, e, x.q, x.e)
		want(t, "the rest", r, e, x.r, x.e)
	}
}

// A divisor whose low parts are great makes the first guess at a digit too great, by one or by two; one whose highest part stands in the rest as well has no guess by division at all.
func TestP2_3_GuessesThatAreTooGreat(t *testing.T) {
	for _, x := range []struct{ a, b api.Wide }{
		{api.Wide{0, 1 << 63, 1<<63 - 1}, api.Wide{all, 1 << 63}},         // by two
		{api.Wide{0, 0, 1 << 63, 1<<63 - 1}, api.Wide{all, all, 1 << 63}}, // by two
		{api.Wide{0, 0, 1 << 63}, api.Wide{all, 1 << 63}},
		{api.Wide{0, all - 1, 1 << 63}, api.Wide{all, 1 << 63}},
		{api.Wide{3, 0, 1 << 63}, api.Wide{1, 0, 1 << 61}},
		{api.Wide{0, 0, 1 << 63, 1<<63 - 1}, api.Wide{1, 0, 1 << 63}},
		{api.Wide{0, all - 1, 0, 1 << 63}, api.Wide{all, 0, 1 << 63}},
		{api.Wide{0, 0, 0, 3}, api.Wide{all, all, 1}},
		{api.Wide{0, 0, 0, 1 << 63}, api.Wide{all, all, 1 << 63}},
		{api.Wide{0, 0, 3}, api.Wide{all, 1}},
		{api.Wide{all, all, all, all - 1}, api.Wide{all, all, all}},
		{api.Wide{all, all, all - 1, all - 1}, api.Wide{all, all, all - 1}},
		{api.Wide{0, 0, 0, 1}, api.Wide{all, 1}},
	} {
		checkDiv(t, x.a, x.b)
	}
}

func TestP2_3_DivisorsOfEveryLength(t *testing.T) {
	for n := 1; n <= 4; n++ {
		for _, low := range []uint64{0, 1, 1 << 63, all} {
			for bit := range 64 {
				for _, high := range []uint64{1 << bit, 1<<bit | 1, all >> bit} {
					var b api.Wide
					for i := range n - 1 {
						b[i] = low
					}
					b[n-1] = high
					for _, a := range []api.Wide{{}, Of(1), Of(all), power(64), power(128), power(192), power(255), top(), {0, all, 0, all}, b} {
						checkDiv(t, a, b)
					}
				}
			}
		}
	}
}

func TestP2_3_AgainstTheLibrary(t *testing.T) {
	for _, l := range [][]api.Wide{edges(), corners()} {
		for _, a := range l {
			for _, b := range l {
				checkDiv(t, a, b)
			}
		}
	}
	r := rand.New(rand.NewSource(3))
	for range 20000 {
		checkDiv(t, scattered(r), scattered(r))
	}
}

// What is just a multiple leaves nothing, and one less leaves the most that can be left.
func TestP2_3_AtAndBelowAMultiple(t *testing.T) {
	r := rand.New(rand.NewSource(4))
	tried := 0
	for tried < 5000 {
		b, q := scattered(r), scattered(r)
		a, e := Mul(b, q)
		if e != api.OK || IsZero(a) {
			continue
		}
		tried++
		checkDiv(t, a, b)
		below, _ := Sub(a, Of(1))
		checkDiv(t, below, b)
	}
}

func TestP2_4_Examples(t *testing.T) {
	for _, x := range []struct {
		a, b, c, q api.Wide
		e          api.Errno
	}{
		{top(), top(), top(), top(), api.OK},
		{top(), Of(2), Of(1), Of(0), api.ErrWideOver},
		{Of(10), Of(10), Of(3), Of(33), api.OK},
		{top(), top(), Of(0), Of(0), api.ErrWideZero},
		{Of(0), Of(0), Of(0), Of(0), api.ErrWideZero},
		{Of(0), top(), Of(1), Of(0), api.OK},
		{top(), Of(1), Of(1), top(), api.OK},
		{Of(1), Of(1), top(), Of(0), api.OK},
	} {
		q, e := MulDiv(x.a, x.b, x.c)
		want(t, "MulDiv", q, e, x.q, x.e)
	}
}

func TestP2_4_QuotientBelowAtAndAbove(t *testing.T) {
	for _, x := range []struct {
		a, b, c, q api.Wide
		e          api.Errno
	}{
		{power(128), power(128), Of(1), Of(0), api.ErrWideOver},      // 2^256
		{power(128), power(128), Of(2), power(255), api.OK},          // product 2^256
		{power(255), power(255), power(254), Of(0), api.ErrWideOver}, // 2^256
		{power(255), power(255), power(255), power(255), api.OK},
		{power(255), power(255), api.Wide{1, 0, 0, 1 << 62}, api.Wide{all - 3, all, all, all}, api.OK}, // 2^256 - 4 and a little
		{top(), top(), api.Wide{all - 1, all, all, all}, Of(0), api.ErrWideOver},                       // 2^256 and a little
		{top(), api.Wide{all - 1, all, all, all}, top(), api.Wide{all - 1, all, all, all}, api.OK},
		{top(), top(), Of(1), Of(0), api.ErrWideOver}, // 2^512 and less
		{top(), top(), power(255), Of(0), api.ErrWideOver},
		{top(), Of(all), power(64), api.Wide{all, all, all, all - 1}, api.OK},
		{top(), power(64), Of(all), Of(0), api.ErrWideOver},
	} {
		q, e := MulDiv(x.a, x.b, x.c)
		want(t, "MulDiv", q, e, x.q, x.e)
		q, e = MulDiv(x.b, x.a, x.c)
		want(t, "MulDiv, turned", q, e, x.q, x.e)
	}
}

func TestP2_4_AgainstTheLibrary(t *testing.T) {
	some := edges()
	if testing.Short() {
		some = some[:20]
	}
	for _, a := range some {
		for _, b := range some {
			for _, c := range some {
				checkMulDiv(t, a, b, c)
			}
		}
	}
	r := rand.New(rand.NewSource(5))
	for range 50000 {
		checkMulDiv(t, scattered(r), scattered(r), scattered(r))
	}
	l := corners()
	for range 50000 {
		checkMulDiv(t, l[r.Intn(len(l))], l[r.Intn(len(l))], l[r.Intn(len(l))])
	}
}

func TestP2_5_CmpAndIsZero(t *testing.T) {
	if c := Cmp(power(64), Of(all)); c != 1 {
		t.Errorf("Cmp(2^64, 2^64 - 1): %d", c)
	}
	if c := Cmp(top(), top()); c != 0 {
		t.Errorf("Cmp(M, M): %d", c)
	}
	for _, l := range [][]api.Wide{edges(), corners()} {
		for _, a := range l {
			if IsZero(a) != (toBig(a).Sign() == 0) {
				t.Errorf("IsZero(%x): %v", a, IsZero(a))
			}
			for _, b := range l {
				if c := Cmp(a, b); c != toBig(a).Cmp(toBig(b)) {
					t.Errorf("Cmp(%x, %x): %d", a, b, c)
				}
			}
		}
	}
	for i := range 256 {
		if IsZero(power(i)) {
			t.Errorf("IsZero(2^%d)", i)
		}
	}
}

func TestP2_6_Examples(t *testing.T) {
	sum, e := Sum()
	want(t, "Sum()", sum, e, api.Wide{}, api.OK)
	sum, e = Sum([]api.Wide{}...)
	want(t, "Sum of an empty list", sum, e, api.Wide{}, api.OK)
	sum, e = Sum(top())
	want(t, "Sum(M)", sum, e, top(), api.OK)
	sum, e = Sum(Of(1), Of(2), Of(3))
	want(t, "Sum(1, 2, 3)", sum, e, Of(6), api.OK)
	sum, e = Sum(top(), Of(1), Of(0))
	want(t, "Sum(M, 1, 0)", sum, e, api.Wide{}, api.ErrWideOver)
	sum, e = Sum(Of(0), Of(1), top())
	want(t, "Sum(0, 1, M)", sum, e, api.Wide{}, api.ErrWideOver)
}

func TestP2_6_BelowAtAndAbove(t *testing.T) {
	quarter := power(254)
	below, _ := Sub(quarter, Of(1))
	sum, e := Sum(quarter, quarter, quarter, below)
	want(t, "just below", sum, e, top(), api.OK)
	sum, e = Sum(quarter, quarter, quarter, quarter)
	want(t, "at it", sum, e, api.Wide{}, api.ErrWideOver)
	// What is left when 2^256 is dropped once, twice, is no sum.
	sum, e = Sum(top(), top(), Of(9))
	want(t, "twice above", sum, e, api.Wide{}, api.ErrWideOver)
	sum, e = Sum(power(255), power(255), Of(1), Of(2))
	want(t, "above, and small ones behind", sum, e, api.Wide{}, api.ErrWideOver)
}

func TestP2_6_AgainstTheLibrary(t *testing.T) {
	r := rand.New(rand.NewSource(6))
	for range 5000 {
		l := make([]api.Wide, r.Intn(12))
		total := new(big.Int)
		for i := range l {
			l[i] = scattered(r)
			l[i][3] >>= r.Intn(8)
			total.Add(total, toBig(l[i]))
		}
		sum, e := Sum(l...)
		wanted, f := known(total)
		want(t, "Sum", sum, e, wanted, f)
	}
}

func TestP2_7_Bits(t *testing.T) {
	for _, x := range []struct {
		a api.Wide
		n int
	}{{Of(0), 0}, {Of(1), 1}, {Of(2), 2}, {Of(3), 2}, {Of(255), 8}, {Of(256), 9}, {Of(all), 64}, {power(64), 65}, {power(255), 256}, {top(), 256}} {
		if n := Bits(x.a); n != x.n {
			t.Errorf("Bits(%x): %d, not %d", x.a, n, x.n)
		}
	}
	for i := range 256 {
		if n := Bits(power(i)); n != i+1 {
			t.Errorf("Bits(2^%d): %d", i, n)
		}
		below, _ := Sub(power(i), Of(1))
		if n := Bits(below); n != i {
			t.Errorf("Bits(2^%d - 1): %d", i, n)
		}
	}
	for _, a := range corners() {
		if n := Bits(a); n != toBig(a).BitLen() {
			t.Errorf("Bits(%x): %d", a, n)
		}
	}
}

func TestP2_8_BytesAndRead(t *testing.T) {
	if b := Bytes(Of(256)); !bytes.Equal(b, append(make([]byte, 30), 1, 0)) {
		t.Errorf("Bytes(256): %x", b)
	}
	a, e := Read(bytes.Repeat([]byte{255}, 32))
	want(t, "Read of 32 bytes 255", a, e, top(), api.OK)
	a, e = Read(make([]byte, 32))
	want(t, "Read of 32 zeros", a, e, api.Wide{}, api.OK)
	for i := range 32 {
		b := make([]byte, 32)
		b[i] = 0x81
		a, e := Read(b)
		var wanted api.Wide
		wanted[3-i/8] = 0x81 << (8 * (7 - i%8))
		want(t, "Read", a, e, wanted, api.OK)
		if got := Bytes(wanted); !bytes.Equal(got, b) {
			t.Errorf("Bytes(%x): %x", wanted, got)
		}
	}
	for _, a := range append(edges(), corners()...) {
		if b := Bytes(a); !bytes.Equal(b, toBig(a).FillBytes(make([]byte, 32))) {
			t.Errorf("Bytes(%x): %x", a, b)
		}
	}
}

func TestP2_8_AnotherNumberOfBytes(t *testing.T) {
	for _, n := range []int{0, 1, 8, 16, 20, 24, 30, 31, 33, 34, 40, 63, 64, 65, 4096} {
		a, e := Read(bytes.Repeat([]byte{1}, n))
		want(t, "Read of another number of bytes", a, e, api.Wide{}, api.ErrWideBytes)
	}
	a, e := Read(nil)
	want(t, "Read of nil", a, e, api.Wide{}, api.ErrWideBytes)
	a, e = Read(make([]byte, 31, 32))
	want(t, "Read of 31 bytes with room for one", a, e, api.Wide{}, api.ErrWideBytes)
}

func TestP2_9_Text(t *testing.T) {
	for s, a := range map[string]api.Wide{
		"0": {}, "1": Of(1), "9": Of(9), "10": Of(10), "18446744073709551615": Of(all), "18446744073709551616": power(64),
		"340282366920938463463374607431768211456": power(128), topText: top(),
		"57896044618658097711785492504343953926634992332820282019728792003956564819968": power(255),
		"9999999999999999999":  {tenTo19 - 1},
		"10000000000000000000": {tenTo19},
	} {
		if got := Text(a); got != s {
			t.Errorf("Text(%x): %s, not %s", a, got, s)
		}
		got, e := Parse(s)
		want(t, "Parse("+s+")", got, e, a, api.OK)
	}
	// Every power of ten, and its neighbours, has noughts or nines in every place.
	ten := big.NewInt(1)
	for range 78 {
		for _, d := range []int64{-1, 0, 1} {
			x := new(big.Int).Add(ten, big.NewInt(d))
			if got := Text(ofBig(x)); got != x.String() {
				t.Errorf("Text: %s, not %s", got, x)
			}
			got, e := Parse(x.String())
			want(t, "Parse("+x.String()+")", got, e, ofBig(x), api.OK)
		}
		ten.Mul(ten, big.NewInt(10))
	}
	r := rand.New(rand.NewSource(9))
	for _, a := range append(edges(), corners()...) {
		checkText(t, a)
	}
	for range 20000 {
		checkText(t, scattered(r))
	}
}

func checkText(t *testing.T, a api.Wide) {
	t.Helper()
	s := toBig(a).String()
	if got := Text(a); got != s {
		t.Errorf("Text(%x): %s, not %s", a, got, s)
	}
	got, e := Parse(s)
	want(t, "Parse("+s+")", got, e, a, api.OK)
}

func TestP2_9_NoText(t *testing.T) {
	for _, s := range []string{
		"", "007", "01", "00", "0" + topText, "+1", "-1", "-0", "+0", " 1", "1 ", "\t1", "1\n", " ", "1 2", "1_000", "1,000", "1.0", ".5", "1e3", "0x10", "a", "1a", "a1", "x",
		"/", ":", "1/", "1:", "\x00", "1\x00", "\xff", "1\xff", "١", "1١", "½", "٣3", "１", "-", "+", "--1", "inf", "nil",
		beyondText, topText + "0", topText + "x", strings.Repeat("9", 78), "1" + strings.Repeat("0", 78), "1" + strings.Repeat("0", 154), strings.Repeat("9", 5000), strings.Repeat("0", 5000),
		"231584178474632390847141970017375815706539969331281128078915168015826259279872", // 2^257
		"999999999999999999999999999999999999999999999999999999999999999999999999999999",
	} {
		a, e := Parse(s)
		want(t, "Parse("+s+")", a, e, api.Wide{}, api.ErrWideText)
	}
	// Every number from 2^256 on, also where it wraps to a small one.
	for i := range int64(300) {
		for _, times := range []int64{1, 2, 3, 7, 8} {
			x := new(big.Int).Mul(big2(256), big.NewInt(times))
			s := x.Add(x, big.NewInt(i)).String()
			a, e := Parse(s)
			want(t, "Parse("+s+")", a, e, api.Wide{}, api.ErrWideText)
		}
	}
	// Every byte that is no digit, at every place.
	for c := range 256 {
		if '0' <= c && c <= '9' {
			continue
		}
		for at := range 4 {
			s := "123"[:at] + string([]byte{byte(c)}) + "123"[at:]
			a, e := Parse(s)
			want(t, "Parse("+s+")", a, e, api.Wide{}, api.ErrWideText)
		}
	}
}

func TestP2_10_OneCallUndoesAnother(t *testing.T) {
	r := rand.New(rand.NewSource(10))
	for range 20000 {
		checkUndone(t, scattered(r), scattered(r), scattered(r))
	}
	for _, a := range edges() {
		for _, b := range edges() {
			checkUndone(t, a, b, Of(3))
		}
	}
}

func checkUndone(t *testing.T, a, b, c api.Wide) {
	t.Helper()
	if sum, e := Add(a, b); e == api.OK {
		less, e := Sub(sum, b)
		want(t, "Sub of Add", less, e, a, api.OK)
	}
	if product, e := Mul(a, b); e == api.OK {
		if q, r, e := Div(product, b); e == api.OK && (q != a || r != (api.Wide{})) {
			t.Errorf("Div of Mul(%x, %x): %x, %x", a, b, q, r)
		}
		if q, _, e := Div(product, c); e == api.OK {
			got, f := MulDiv(a, b, c)
			want(t, "MulDiv", got, f, q, e)
		}
	}
	again, e := Read(Bytes(a))
	want(t, "Read of Bytes", again, e, a, api.OK)
	again, e = Parse(Text(a))
	want(t, "Parse of Text", again, e, a, api.OK)
}

func TestP2_10_WhatWasRead(t *testing.T) {
	r := rand.New(rand.NewSource(11))
	for range 2000 {
		b := make([]byte, 32)
		r.Read(b)
		a, e := Read(b)
		if e != api.OK || !bytes.Equal(Bytes(a), b) {
			t.Errorf("Bytes of Read(%x): %x, %d", b, Bytes(a), e)
		}
		s := make([]byte, 1+r.Intn(77))
		for i := range s {
			s[i] = byte('0' + r.Intn(10))
		}
		s[0] = byte('1' + r.Intn(9))
		a, e = Parse(string(s))
		if e != api.OK || Text(a) != string(s) {
			t.Errorf("Text of Parse(%s): %s, %d", s, Text(a), e)
		}
	}
}

func TestP2_10_SumInAnyOrderCutInAnyWay(t *testing.T) {
	r := rand.New(rand.NewSource(12))
	for range 2000 {
		l := make([]api.Wide, 1+r.Intn(10))
		for i := range l {
			l[i] = scattered(r)
			l[i][3] >>= r.Intn(6)
		}
		whole, e := Sum(l...)
		mixed := slices.Clone(l)
		r.Shuffle(len(mixed), func(i, j int) { mixed[i], mixed[j] = mixed[j], mixed[i] })
		sum, f := Sum(mixed...)
		want(t, "in another order", sum, f, whole, e)
		at := r.Intn(len(l) + 1)
		head, eh := Sum(l[:at]...)
		tail, et := Sum(l[at:]...)
		if eh != api.OK || et != api.OK {
			if e != api.ErrWideOver {
				t.Errorf("a part is refused (%d, %d), the whole is not (%d)", eh, et, e)
			}
			continue
		}
		sum, f = Sum(head, tail)
		want(t, "cut", sum, f, whole, e)
	}
}

func TestP2_11_HandedInStaysAndIsNotKept(t *testing.T) {
	spare := []api.Wide{Of(1), Of(2), top(), power(64), power(128)}
	was := slices.Clone(spare)
	for n := range len(spare) {
		first, e := Sum(spare[:n]...)
		again, f := Sum(slices.Clip(spare[:n])...)
		want(t, "Sum without spare room", again, f, first, e)
		if !slices.Equal(spare, was) {
			t.Fatalf("Sum of the first %d changed the list or its room: %x", n, spare)
		}
	}
	for _, n := range []int{0, 31, 32, 33} {
		room := bytes.Repeat([]byte{0xa5}, 40)
		before := bytes.Clone(room)
		Read(room[:n])
		if !bytes.Equal(room, before) {
			t.Errorf("Read of %d bytes changed them or their room", n)
		}
	}
	b := Bytes(top())
	a, _ := Read(b)
	clear(b)
	if a != top() {
		t.Errorf("Read kept the bytes: %x", a)
	}
}

func TestP2_11_BytesAnswersNewMemory(t *testing.T) {
	for _, a := range []api.Wide{{}, Of(1), top()} {
		first := Bytes(a)
		wanted := bytes.Clone(first)
		whole := first[:cap(first)]
		for i := range whole {
			whole[i] ^= 0xff
		}
		if second := Bytes(a); !bytes.Equal(second, wanted) {
			t.Errorf("Bytes(%x) behind a change of its first answer: %x", a, second)
		}
	}
}

func TestP2_11_SameArgumentsSameAnswers(t *testing.T) {
	answers := func() []any {
		var l []any
		put := func(x ...any) { l = append(l, x...) }
		for _, a := range edges() {
			s, e := Add(a, power(255))
			put(s, e)
			s, e = Sub(a, power(64))
			put(s, e)
			q, r, e := Div(a, Of(10))
			put(q, r, e)
			s, e = MulDiv(a, a, power(255))
			put(s, e, Text(a), string(Bytes(a)), Bits(a), Cmp(a, power(128)))
		}
		return l
	}
	first := answers()
	done := make(chan []any)
	for range 4 {
		go func() { done <- answers() }()
	}
	for range 4 {
		if !slices.Equal(<-done, first) {
			t.Error("the same arguments have other answers")
		}
	}
}

func FuzzAgainstTheLibrary(f *testing.F) {
	f.Add(make([]byte, 96))
	f.Add(bytes.Repeat([]byte{255}, 96))
	f.Fuzz(func(t *testing.T, data []byte) {
		var l [3]api.Wide
		for i := range l {
			room := make([]byte, 32)
			data = data[copy(room, data):]
			l[i], _ = Read(room)
		}
		a, b, c := l[0], l[1], l[2]
		checkSums(t, a, b)
		checkDiv(t, a, b)
		checkMulDiv(t, a, b, c)
		checkText(t, a)
	})
}

func FuzzParse(f *testing.F) {
	for _, s := range []string{"", "0", "007", "+1", "-0", " 1", topText, beyondText} {
		f.Add(s)
	}
	f.Fuzz(func(t *testing.T, s string) {
		a, e := Parse(s)
		x, isInt := new(big.Int).SetString(s, 10)
		is := isInt && x.String() == s && x.Sign() >= 0 && x.Cmp(big2(256)) < 0
		if is != (e == api.OK) || is && toBig(a).Cmp(x) != 0 || !is && (a != (api.Wide{}) || e != api.ErrWideText) {
			t.Errorf("Parse(%q): %x, %d", s, a, e)
		}
	})
}

func BenchmarkMul(b *testing.B) {
	for range b.N {
		Mul(api.Wide{all, all}, api.Wide{all, all})
	}
}

func BenchmarkDiv(b *testing.B) {
	for range b.N {
		Div(top(), api.Wide{all, 1 << 63})
	}
}

func BenchmarkMulDiv(b *testing.B) {
	for range b.N {
		MulDiv(top(), top(), top())
	}
}

func BenchmarkText(b *testing.B) {
	for range b.N {
		Text(top())
	}
}

func BenchmarkParse(b *testing.B) {
	for range b.N {
		Parse(topText)
	}
}
