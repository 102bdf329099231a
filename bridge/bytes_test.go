package bridge

import (
	"bytes"
	"errors"
	"fmt"
	"math"
	"slices"
	"strings"
	"testing"

	"causeway/api"
	"causeway/chain"
	"causeway/contract"
)

func TestErrors_Numbers(t *testing.T) {
	for _, x := range []struct {
		got    api.Errno
		wanted int
	}{
		{api.OK, 0}, {api.ErrArg, 1}, {api.ErrBridgeHeader, 230}, {api.ErrBridgeOrder, 231}, {api.ErrWireLong, 30}, {api.ErrContractConfig, 180},
		{api.ErrChainTime, 191}, {api.ErrChainCut, 192}, {api.ErrGuardMe, 210}, {api.ErrGuardBehind, 211}, {api.ErrGuardNothing, 212},
		{api.ErrCourierLeaf, 220}, {api.ErrCourierEarly, 221}, {api.ErrCourierPaid, 222}, {api.ErrCourierNode, 223},
	} {
		if int(x.got) != x.wanted {
			t.Errorf("%d, not %d", int(x.got), x.wanted)
		}
	}
}

func TestLimits(t *testing.T) {
	if api.MaxOps != 256 || api.MaxBytes != 4194304 || api.MaxWitness != 4194304 || api.MaxWorkers != 16 || api.MaxReorg != 8 || api.MaxTime != 4611686018427387904 {
		t.Error("the limits are others")
	}
	for i, kind := range []int{api.OrderBlock, api.OrderCut, api.OrderFollow, api.OrderAssert, api.OrderWatch, api.OrderDefend, api.OrderClaim, api.OrderLook} {
		if kind != i+1 {
			t.Errorf("order %d is %d", i+1, kind)
		}
	}
	for i, kind := range []int{api.OpList, api.OpStop, api.OpDeposit, api.OpSend, api.OpPost, api.OpConfirm, api.OpChallenge, api.OpDuel, api.OpSplit, api.OpPick, api.OpProve, api.OpExpire, api.OpClaim} {
		if kind != i+1 {
			t.Errorf("operation %d is %d", i+1, kind)
		}
	}
	for i, stage := range []int{api.LeafUnknown, api.LeafBurned, api.LeafAsserted, api.LeafConfirmed, api.LeafPaid} {
		if stage != i {
			t.Errorf("stage %d is %d", i, stage)
		}
	}
}

// The chapter's examples, row by row and byte by byte.
func TestExamples(t *testing.T) {
	c := api.Config{Owner: api.Address{1}, Admin: api.Address{2}, Window: 100, Turn: 10, Bond: of(5)}
	noughts := make([]byte, 19)
	header := slices.Concat([]byte{0x43, 0x01}, noughts, []byte{0x02}, noughts, []byte{0x01, 0x64, 0x01, 0x0a, 0x01, 0x05})
	if b, e := Header(c); e != 0 || !bytes.Equal(b, header) {
		t.Errorf("Header: %x, %d", b, int(e))
	}
	b, e := New(header)
	if e != 0 {
		t.Fatalf("New: %d", int(e))
	}
	listed := slices.Concat([]byte{1, 1, 7, 1, 1, 1, 1}, noughts, []byte{1, 3})
	for _, x := range []struct {
		order  []byte
		is     api.Order
		wanted api.Answer
	}{
		{[]byte{2, 1, 1}, cutOf(1), api.Answer{Code: 192}},
		{[]byte{1, 0, 0}, blockAt(0), api.Answer{}},
		{[]byte{2, 1, 1}, cutOf(1), api.Answer{}},
		{[]byte{2, 1, 1}, cutOf(1), api.Answer{Code: 192}},
		{listed, blockAt(7, api.Op{Kind: 1, By: api.Address{1}, Token: 3}), api.Answer{Results: make([]api.Result, 1)}},
		{listed, blockAt(7, api.Op{Kind: 1, By: api.Address{1}, Token: 3}), api.Answer{Results: []api.Result{{Code: 142}}}},
		{[]byte{3, 1, 1}, followBy(1), api.Answer{}},
		{[]byte{8, 0}, lookAt(0), api.Answer{}},
		{[]byte{9}, api.Order{}, api.Answer{Code: 231}},
		{[]byte{2, 0, 0}, api.Order{}, api.Answer{Code: 231}},
		{[]byte{2, 2, 0, 1}, api.Order{}, api.Answer{Code: 231}},
	} {
		if a := b.Do(x.order); !sameAnswer(a, x.wanted) {
			t.Errorf("Do(%x): %s, not %s", x.order, textOfAnswer(a), textOfAnswer(x.wanted))
		}
		o, e := Read(x.order)
		if !sameOrder(o, x.is) || (e == 231) != (x.wanted.Code == 231) {
			t.Errorf("Read(%x): %+v, %d", x.order, o, int(e))
		}
		if got, f := Bytes(o); e == 0 && (f != 0 || !bytes.Equal(got, x.order)) {
			t.Errorf("Bytes(%+v): %x, %d", o, got, int(f))
		}
	}
}

// configs are some of each sort, most of which may not be.
func configs() []api.Config {
	var l []api.Config
	seconds := []int{math.MinInt, -1, 0, 1, 100, full - 1, full, full + 1, late, math.MaxInt}
	bonds := []api.Wide{{}, of(1), of(256), {math.MaxUint64, math.MaxUint64, math.MaxUint64}, {3: 1}, {3: 1 << 63}, most()}
	for _, window := range seconds {
		for _, turn := range seconds {
			for _, bond := range bonds {
				l = append(l, api.Config{Owner: oda, Admin: zed, Window: window, Turn: turn, Bond: bond})
			}
		}
	}
	for _, owner := range []api.Address{{}, oda, zed, {19: 255}} {
		for _, admin := range []api.Address{{}, oda, zed, {19: 255}} {
			l = append(l, api.Config{Owner: owner, Admin: admin, Window: 256, Turn: 1})
		}
	}
	return l
}

func TestP23_1_Header(t *testing.T) {
	for _, c := range configs() {
		b, e := Header(c)
		_, wanted := contract.New(c)
		switch {
		case e != wanted || (e == 0) != configMayBe(c) || e != 0 && e != 180:
			t.Errorf("Header(%+v): %d, not %d", c, int(e), int(wanted))
		case e != 0 && len(b) > 0:
			t.Errorf("Header(%+v): %x beside an error", c, b)
		case e == 0 && !bytes.Equal(b, headerBytes(c)):
			t.Errorf("Header(%+v): %x, not %x", c, b, headerBytes(c))
		}
	}
}

// wantNew holds New of bytes against the words.
func wantNew(t testing.TB, what string, header []byte) {
	t.Helper()
	b, e := New(header)
	c, ok := readHeaderWords(header)
	switch {
	case !ok && (e != 230 || b != nil):
		t.Errorf("%s, New(%x): %v, %d, not 230", what, header, b, int(e))
	case ok && (e != 0 || b == nil):
		t.Errorf("%s, New(%x): %d", what, header, int(e))
	case ok:
		(&both{bridge: b, said: newSaid(c)}).wantTold(t, what)
	}
}

// A header of each config: New takes just those that contract.New takes, and has that config.
func TestP23_4_New(t *testing.T) {
	for _, c := range configs() {
		if c.Window < 0 || c.Turn < 0 {
			continue // no bytes say so
		}
		wantNew(t, fmt.Sprintf("%+v", c), headerBytes(c))
		_, e := New(headerBytes(c))
		if _, f := chain.New(c); (e == 0) != (f == 0) {
			t.Errorf("New(%+v): %d, and chain.New %d", c, int(e), int(f))
		}
	}
	b, e := New(headerBytes(usual()))
	if e != 0 || b.chain.Height() != 0 || b.chain.Time() != 0 || b.chain.Cut(1) != 192 || b.node.Count() != 0 || b.chain.Contract().Config() != usual() {
		t.Errorf("what a new bridge has is not nothing: %d", int(e))
	}
}

// What is not just a header: turned bytes, less, more, other forms of its numbers.
func TestP23_4_NewOfOtherBytes(t *testing.T) {
	for _, c := range []api.Config{usual(), {Owner: oda, Admin: zed, Window: full, Turn: 300, Bond: api.Wide{1, 2, 3}}, {Window: 1, Turn: 1}} {
		b := headerBytes(c)
		for i := range b {
			for x := range 256 {
				if i > 1 && i < 40 && (x+i)%64 > 0 { // within an address
					continue
				}
				turned := bytes.Clone(b)
				turned[i] = byte(x)
				wantNew(t, "turned", turned)
			}
			wantNew(t, "cut", b[:i])
			wantNew(t, "without its first bytes", b[i+1:])
			wantNew(t, "one less in it", slices.Delete(bytes.Clone(b), i, i+1))
			for x := range 4 {
				wantNew(t, "one more in it", slices.Insert(bytes.Clone(b), i, byte(x)))
			}
		}
		for x := range 256 {
			wantNew(t, "one more", append(bytes.Clone(b), byte(x)))
		}
		wantNew(t, "twice", append(bytes.Clone(b), b...))
	}
	wantNew(t, "nothing", nil)
	wantNew(t, "nothing", []byte{})
	ahead := append(append([]byte{67}, oda[:]...), zed[:]...)
	for what, rest := range map[string][]byte{
		"a number with a nought":          {2, 0, 100, 1, 10, 1, 5},
		"a turn with a nought":            {1, 100, 2, 0, 10, 1, 5},
		"a bond with a nought":            {1, 100, 1, 10, 2, 0, 5},
		"a nought for a nought":           {1, 100, 1, 10, 1, 0},
		"no bond":                         {1, 100, 1, 10, 0},
		"a window of nought":              {0, 1, 10, 0},
		"a turn of nought":                {1, 100, 0, 0},
		"a window of nine bytes":          {9, 1, 2, 3, 4, 5, 6, 7, 8, 9, 1, 10, 0},
		"a window of 2^63":                {8, 128, 0, 0, 0, 0, 0, 0, 0, 1, 10, 0},
		"a window of 2^40":                {6, 1, 0, 0, 0, 0, 0, 1, 10, 0},
		"a window above 2^40":             {6, 1, 0, 0, 0, 0, 1, 1, 10, 0},
		"a turn above 2^40":               {1, 10, 6, 1, 0, 0, 0, 0, 1, 0},
		"a bond of 24 bytes":              append([]byte{1, 100, 1, 10, 24, 255}, make([]byte, 23)...),
		"a bond of 25 bytes":              append([]byte{1, 100, 1, 10, 25, 1}, make([]byte, 24)...),
		"a bond of 32 bytes":              append([]byte{1, 100, 1, 10, 32, 255}, make([]byte, 31)...),
		"a bond of 33 bytes":              append([]byte{1, 100, 1, 10, 33, 1}, make([]byte, 32)...),
		"a bond of which a byte is there": {1, 100, 1, 10, 2, 1},
		"a bond that is not there":        {1, 100, 1, 10},
	} {
		wantNew(t, what, slices.Concat(ahead, rest))
	}
	if b, e := New(append(headerBytes(usual()), make([]byte, mega)...)); b != nil || e != 230 {
		t.Errorf("very many bytes: %d", int(e))
	}
}

// wantBytes holds Bytes of an order against the words, and Read of what it answers.
func wantBytes(t testing.TB, what string, o api.Order) api.Errno {
	t.Helper()
	got, e := Bytes(o)
	wanted, f := wordsBytes(o)
	if e != f || !bytes.Equal(got, wanted) {
		t.Errorf("%s: Bytes: %d bytes, %d, not %d, %d", what, len(got), int(e), len(wanted), int(f))
	}
	if e == 0 {
		if back, f := Read(got); f != 0 || !sameOrder(back, o) {
			t.Errorf("%s: Read of its bytes: %+v, %d", what, back, int(f))
		}
	}
	return e
}

// wantCode wants this error from Bytes, too.
func wantCode(t testing.TB, what string, o api.Order, code int) {
	t.Helper()
	if e := wantBytes(t, what, o); int(e) != code {
		t.Errorf("%s: Bytes: %d, not %d", what, int(e), code)
	}
}

// wantRead holds Read of bytes against the words, and Bytes of what it answers.
func wantRead(t testing.TB, what string, b []byte) bool {
	t.Helper()
	got, e := Read(b)
	wanted, ok := readWords(b)
	if !ok && e != 231 || ok && e != 0 || !sameOrder(got, wanted) {
		t.Errorf("%s: Read(%x): %+v, %d, not %+v", what, b[:min(len(b), 80)], got, int(e), wanted)
	}
	if e == 0 {
		if back, f := Bytes(got); f != 0 || !bytes.Equal(back, b) {
			t.Errorf("%s: Read(%x), and Bytes of it: %x, %d", what, b[:min(len(b), 80)], back[:min(len(back), 80)], int(f))
		}
	}
	return e == 0
}

func blockOf(ops ...api.Op) api.Order { return blockAt(3, ops...) }

// setOp lets a field of an operation be not zero, in several ways that may be; sizes of all lengths.
func setOp(o api.Op, f rune) []api.Op {
	var l []api.Op
	add := func(set func(o *api.Op)) {
		x := o
		set(&x)
		l = append(l, x)
	}
	for _, n := range []int{1, 2, 63, 64, 255, 256, 1<<16 - 1, 1 << 16, full, full + 1, late, late + 1, math.MaxInt - 1, math.MaxInt} {
		switch f {
		case 'T':
			add(func(o *api.Op) { o.Token = n })
		case 'G':
			add(func(o *api.Op) { o.Gas = n })
		case 'N':
			add(func(o *api.Op) { o.Number = n })
		case 'I':
			add(func(o *api.Op) { o.Index = n })
		}
	}
	switch f {
	case 't':
		add(func(o *api.Op) { o.To = ann })
		add(func(o *api.Op) { o.To[19] = 1 })
		add(func(o *api.Op) { o.To[0] = 255 })
	case 'A':
		for i := range 256 {
			add(func(o *api.Op) { o.Amount[i/64] = 1 << (i % 64) })
		}
		add(func(o *api.Op) { o.Amount = most() })
	case 'B':
		for _, n := range []int{1, 2, 255, 256, 4096, 4097, 1 << 16} {
			add(func(o *api.Op) { o.Body = bytes.Repeat([]byte{0, 7}, n)[:n] })
		}
	case 'P':
		for _, n := range []int{1, 2, 63, 64} {
			add(func(o *api.Op) { o.Path = append(make([]api.Digest, n-1), api.Digest{31: 1}) })
		}
	}
	return l
}

// Each kind of operation with each field by itself: written and read again where the kind uses it, else refused.
func TestP23_2_FieldsOfOperations(t *testing.T) {
	for kind := 1; kind <= 13; kind++ {
		uses, _ := opUses(kind)
		for _, by := range []api.Address{{}, ann, {19: 1}} {
			wantCode(t, fmt.Sprint("kind ", kind, ", nothing"), blockOf(api.Op{Kind: kind, By: by}), 0)
			wantCode(t, fmt.Sprint("kind ", kind, ", empty lists"), blockOf(api.Op{Kind: kind, By: by, Body: []byte{}, Path: []api.Digest{}}), 0)
		}
		for _, f := range "TtAGNIBP" {
			for _, o := range setOp(api.Op{Kind: kind, By: bob}, f) {
				code := 231
				if strings.ContainsRune(uses, f) {
					code = 0
				}
				wantCode(t, fmt.Sprintf("kind %d, field %c", kind, f), blockOf(o), code)
			}
		}
		for _, n := range []int{-1, -2, -256, math.MinInt} {
			for _, o := range []api.Op{{Token: n}, {Gas: n}, {Number: n}, {Index: n}} {
				o.Kind = kind
				wantCode(t, fmt.Sprint("kind ", kind, ", below nought"), blockOf(o), 231)
			}
		}
	}
}

// whole is an operation of a kind in which all fields that it uses are not zero.
func whole(kind int) api.Op {
	o := api.Op{Kind: kind, By: cyd}
	uses, _ := opUses(kind)
	for i, f := range uses {
		l := setOp(o, f)
		o = l[(kind+3*i)%len(l)]
	}
	return o
}

// All fields that a kind uses together; one below nought among them; and several operations of all kinds behind one another.
func TestP23_2_WholeOperations(t *testing.T) {
	var all []api.Op
	for kind := 1; kind <= 13; kind++ {
		o := whole(kind)
		all = append(all, o)
		wantCode(t, fmt.Sprint("kind ", kind), blockOf(o), 0)
		wantCode(t, fmt.Sprint("kind ", kind, ", twice"), blockOf(o, o), 0)
		for _, set := range []func(o *api.Op){
			func(o *api.Op) { o.Token = -1 - o.Token }, func(o *api.Op) { o.Gas = -1 - o.Gas }, func(o *api.Op) { o.Number = -1 - o.Number }, func(o *api.Op) { o.Index = -1 - o.Index },
		} {
			x := o
			set(&x)
			wantCode(t, fmt.Sprint("kind ", kind, ", one below nought"), blockOf(x), 231)
			wantCode(t, fmt.Sprint("kind ", kind, ", one below nought behind others"), blockOf(append(slices.Clone(all), x)...), 231)
		}
	}
	wantCode(t, "all kinds", blockOf(all...), 0)
	for i := range all {
		wantCode(t, "one that is of no kind", blockOf(slices.Insert(slices.Clone(all), i, api.Op{})...), 231)
	}
}

// The bytes of each kind, as the table has them.
func TestP23_2_OperationsByteByByte(t *testing.T) {
	by, to := slices.Repeat([]byte{9}, 20), slices.Repeat([]byte{8}, 20)
	digest := slices.Repeat([]byte{7}, 32)
	o := api.Op{By: api.Address(by), Token: 3, To: api.Address(to), Amount: of(700), Gas: 0, Number: 258, Index: 1, Body: []byte{5, 0}, Path: []api.Digest{api.Digest(digest), api.Digest(digest)}}
	token, amount, gas, number, index, body := []byte{1, 3}, []byte{2, 2, 188}, []byte{0}, []byte{2, 1, 2}, []byte{1, 1}, []byte{1, 2, 5, 0}
	path := slices.Concat([]byte{1, 2}, digest, digest)
	for kind, rest := range map[int][]byte{
		1: token, 2: slices.Concat(token, index), 3: slices.Concat(token, to, amount, gas), 4: body, 5: body, 6: nil, 7: slices.Concat(number, body), 8: number,
		9: slices.Concat(to, number, body), 10: slices.Concat(number, index), 11: slices.Concat(number, body), 12: slices.Concat(to, number), 13: slices.Concat(body, path),
	} {
		x, uses := api.Op{Kind: kind, By: o.By}, string(rest)
		used, _ := opUses(kind)
		for _, f := range used {
			switch f {
			case 'T':
				x.Token = o.Token
			case 't':
				x.To = o.To
			case 'A':
				x.Amount = o.Amount
			case 'N':
				x.Number = o.Number
			case 'I':
				x.Index = o.Index
			case 'B':
				x.Body = o.Body
			case 'P':
				x.Path = o.Path
			}
		}
		wanted := slices.Concat([]byte{1, 1, 3, 1, 1, byte(kind)}, by, []byte(uses))
		if b, e := Bytes(blockOf(x)); e != 0 || !bytes.Equal(b, wanted) {
			t.Errorf("kind %d: %x, %d, not %x", kind, b, int(e), wanted)
		}
		if got, e := Read(wanted); e != 0 || !sameOrder(got, blockOf(x)) {
			t.Errorf("kind %d: %+v, %d", kind, got, int(e))
		}
	}
}

// setOrder lets a field of an order be not zero.
func setOrder(o api.Order, f rune) []api.Order {
	var l []api.Order
	for _, n := range []int{1, 2, 15, 16, 17, 255, 256, full, late, late + 1, math.MaxInt} {
		x := o
		switch f {
		case 'Z':
			x.Time = n
		case 'C':
			x.Count = n
		case 'I':
			x.Index = n
		case 'W':
			x.Workers = n
		case 'Y':
			x.By[n%20] = 1
		case 'O':
			x.Ops = slices.Repeat([]api.Op{confirm(ann)}, 1+n%250)
		}
		l = append(l, x)
	}
	return l
}

// Each kind of order with each field by itself.
func TestP23_2_FieldsOfOrders(t *testing.T) {
	for kind := 1; kind <= 8; kind++ {
		uses, _ := orderUses(kind)
		wantCode(t, fmt.Sprint("kind ", kind, ", nothing"), api.Order{Kind: kind}, 0)
		wantCode(t, fmt.Sprint("kind ", kind, ", an empty list"), api.Order{Kind: kind, Ops: []api.Op{}}, 0)
		all := api.Order{Kind: kind}
		for _, f := range "ZCIWYO" {
			for _, o := range setOrder(api.Order{Kind: kind}, f) {
				code := 231
				if strings.ContainsRune(uses, f) {
					code = 0
				}
				wantCode(t, fmt.Sprintf("kind %d, field %c", kind, f), o, code)
			}
			if strings.ContainsRune(uses, f) {
				l := setOrder(all, f)
				all = l[kind%len(l)]
			}
		}
		wantCode(t, fmt.Sprint("kind ", kind, ", all"), all, 0)
		for _, n := range []int{-1, -16, math.MinInt} {
			for _, set := range []func(o *api.Order){func(o *api.Order) { o.Time = n }, func(o *api.Order) { o.Count = n }, func(o *api.Order) { o.Index = n }, func(o *api.Order) { o.Workers = n }} {
				for _, o := range []api.Order{{Kind: kind}, all} {
					set(&o)
					wantCode(t, fmt.Sprint("kind ", kind, ", below nought"), o, 231)
				}
			}
		}
		wantCode(t, fmt.Sprint("kind ", kind, ", an operation of no kind"), api.Order{Kind: kind, Ops: make([]api.Op, 1)}, 231)
	}
}

// Kinds that there are not, also those whose lowest byte is that of one that there is.
func TestP23_2_Kinds(t *testing.T) {
	for _, kind := range []int{math.MinInt, -256, -255, -1, 0, 9, 10, 13, 255, 256, 257, 264, 1<<32 + 1, math.MaxInt} {
		wantCode(t, fmt.Sprint("an order of kind ", kind), api.Order{Kind: kind}, 231)
	}
	for _, kind := range []int{math.MinInt, -256, -255, -1, 0, 14, 15, 255, 256, 257, 269, 1<<32 + 1, math.MaxInt} {
		wantCode(t, fmt.Sprint("an operation of kind ", kind), blockOf(api.Op{Kind: kind}), 231)
	}
	for kind := range 256 {
		wantRead(t, "one byte", []byte{byte(kind)})
		for _, rest := range [][]byte{{0}, {0, 0}, {0, 0, 0}, make([]byte, 21), make([]byte, 22), make([]byte, 23)} {
			wantRead(t, "noughts", append([]byte{byte(kind)}, rest...))
		}
		for n := range 40 {
			wantRead(t, "an operation", append([]byte{1, 0, 1, 1, byte(kind)}, make([]byte, n)...))
		}
	}
}

// How many operations.
func TestP23_2_HowManyOperations(t *testing.T) {
	for _, n := range []int{0, 1, 2, 127, 255, 256, 257, 300, 1000} {
		code := 0
		if n > 256 {
			code = 231
		}
		o := blockOf(slices.Repeat([]api.Op{confirm(ann)}, n)...)
		wantCode(t, fmt.Sprint(n, " operations"), o, code)
		if got := wantRead(t, fmt.Sprint(n, " operations"), orderBytes(o)); got != (code == 0) {
			t.Errorf("%d operations are read: %v", n, got)
		}
		for _, i := range []int{0, n / 2, n - 1} {
			if n == 0 {
				continue
			}
			o := blockOf(slices.Clone(o.Ops)...)
			o.Ops[i].Gas = 1
			wantCode(t, fmt.Sprint(n, " operations, one that may not be"), o, 231)
			o.Ops[i] = api.Op{Kind: 14}
			wantCode(t, fmt.Sprint(n, " operations, one of no kind"), o, 231)
			wantRead(t, fmt.Sprint(n, " operations, one of no kind"), orderBytes(o))
		}
	}
}

// Bodies and paths at their greatest sizes.
func TestP23_2_Sizes(t *testing.T) {
	for kind := 1; kind <= 13; kind++ {
		uses, _ := opUses(kind)
		long, longer := 231, 231 // one of MaxWitness bytes may be, but not within MaxBytes
		if strings.ContainsRune(uses, 'B') {
			long = 30
		}
		wantCode(t, fmt.Sprint("kind ", kind, ", a long body"), blockOf(api.Op{Kind: kind, Body: make([]byte, mega)}), long)
		wantCode(t, fmt.Sprint("kind ", kind, ", a body that is too long"), blockOf(api.Op{Kind: kind, Body: make([]byte, mega+1)}), longer)
	}
	for n, code := range map[int]int{0: 0, 1: 0, 63: 0, 64: 0, 65: 231, 66: 231, 1000: 231} {
		o := blockOf(api.Op{Kind: 13, By: ann, Path: make([]api.Digest, n)})
		wantCode(t, fmt.Sprint("a path of ", n), o, code)
		if got := wantRead(t, fmt.Sprint("a path of ", n), orderBytes(o)); got != (code == 0) {
			t.Errorf("a path of %d is read: %v", n, got)
		}
	}
}

// ofSize is an order of so many bytes.
func ofSize(n int) api.Order {
	o := blockOf(confirm(ann), api.Op{Kind: 4, By: ann}, confirm(bob))
	o.Ops[1].Body = make([]byte, n-len(orderBytes(o))-3)
	for i := range o.Ops[1].Body {
		o.Ops[1].Body[i] = byte(i * i >> 5)
	}
	return o
}

// MaxBytes bytes, and one more.
func TestP23_2_Long(t *testing.T) {
	for _, x := range []struct{ bytes, code int }{{mega - 1, 0}, {mega, 0}, {mega + 1, 30}, {mega + 2, 30}, {mega + 50, 30}} {
		o := ofSize(x.bytes)
		if n := len(orderBytes(o)); n != x.bytes {
			t.Fatalf("%d bytes, not %d", n, x.bytes)
		}
		wantCode(t, fmt.Sprint(x.bytes, " bytes"), o, x.code)
		if got := wantRead(t, fmt.Sprint(x.bytes, " bytes"), orderBytes(o)); got != (x.code == 0) {
			t.Errorf("%d bytes are read: %v", x.bytes, got)
		}
	}
	for kind, size := range map[int]int{4: mega - 29, 5: mega - 29, 7: mega - 30, 9: mega - 50, 11: mega - 30, 13: mega - 30} { // nothing beside the one body
		o := blockAt(0, api.Op{Kind: kind, Body: make([]byte, size)})
		if n := len(orderBytes(o)); n != mega {
			t.Fatalf("kind %d: %d bytes", kind, n)
		}
		wantCode(t, fmt.Sprint("kind ", kind, ", as long as may be"), o, 0)
		o.Ops[0].Body = make([]byte, size+1)
		wantCode(t, fmt.Sprint("kind ", kind, ", one byte more"), o, 30)
	}
	many := blockOf(slices.Repeat([]api.Op{{Kind: 7, By: ann, Number: 1, Body: make([]byte, 16384)}}, 256)...)
	wantCode(t, "many that are long together", many, 30)
	for i := range many.Ops {
		many.Ops[i].Body = make([]byte, 16353)
	}
	many.Ops[255].Body = make([]byte, mega-len(orderBytes(many))+16353)
	if n := len(orderBytes(many)); n != mega {
		t.Fatalf("%d bytes", n)
	}
	wantCode(t, "many, as long as may be", many, 0)
	many.Ops[0].Body = make([]byte, 16354)
	wantCode(t, "one byte more in the first one", many, 30)
	// What may not be is told ahead of what is too long, wherever it stands.
	for _, o := range []api.Op{{Kind: 14}, {Kind: 6, Token: 1}, {Kind: 8, Number: -1}, {Kind: 13, Path: make([]api.Digest, 65)}, {Kind: 4, Body: make([]byte, mega+1)}} {
		long := api.Op{Kind: 4, Body: make([]byte, mega)}
		wantCode(t, "too long, and behind it one that may not be", blockOf(long, o), 231)
		wantCode(t, "too long, and ahead of it one that may not be", blockOf(o, long), 231)
	}
	o := blockOf(api.Op{Kind: 4, Body: make([]byte, mega)})
	o.Count = 1
	wantCode(t, "too long, and a field that is not used", o, 231)
	if b, e := Bytes(blockOf(slices.Repeat([]api.Op{{Kind: 4, Body: make([]byte, mega)}}, 256)...)); e != 30 || len(b) > 0 {
		t.Errorf("very much too long: %d", int(e))
	}
}

// samples are orders of every kind, and of every kind of operations.
func samples() []api.Order {
	l := []api.Order{
		blockAt(0), blockAt(late), blockAt(300, confirm(ann), list(3), confirm(bob)),
		cutOf(0), cutOf(8), cutOf(math.MaxInt), followBy(0), followBy(16), assertAt(0, ann), assertAt(256, bob), watchAt(5, wes, 4), watchAt(late+1, wes, 0), defendAt(70000, ann), claimAt(9, dan, 0), claimAt(0, dan, 300), lookAt(0), lookAt(math.MaxInt),
	}
	for kind := 1; kind <= 13; kind++ {
		o := whole(kind)
		if len(o.Body) > 300 {
			o.Body = o.Body[:300]
		}
		o.Path = o.Path[:min(len(o.Path), 3)]
		l = append(l, blockAt(7, o), blockAt(0, confirm(ann), o, api.Op{Kind: kind}))
	}
	return l
}

// Bytes that end early at each place, that have bytes behind them, that miss one, that have one more.
func TestP23_3_ShortAndLong(t *testing.T) {
	for i, o := range samples() {
		what, b := fmt.Sprint("sample ", i), orderBytes(o)
		if !wantRead(t, what, b) {
			t.Errorf("%s is not read", what)
		}
		for k := range b {
			if wantRead(t, what+", cut", b[:k]) {
				t.Errorf("%s is read, cut behind %d bytes", what, k)
			}
			wantRead(t, what+", one less in it", slices.Delete(bytes.Clone(b), k, k+1))
			wantRead(t, what+", one more in it", slices.Insert(bytes.Clone(b), k, 1))
			wantRead(t, what+", a nought more in it", slices.Insert(bytes.Clone(b), k, 0))
		}
		for x := range 256 {
			if wantRead(t, what+", one more", append(bytes.Clone(b), byte(x))) {
				t.Errorf("%s is read, with %d behind it", what, x)
			}
		}
		if wantRead(t, what+", twice", append(bytes.Clone(b), b...)) {
			t.Errorf("%s is read, twice", what)
		}
	}
}

// Each byte turned into each other one.
func TestP23_3_Turned(t *testing.T) {
	t.Parallel()
	for i, o := range samples() {
		b := orderBytes(o)
		for k := range b {
			what, turned := fmt.Sprint("sample ", i, ", byte ", k), bytes.Clone(b)
			for x := range 256 {
				if k > 48 && (x+k)%16 > 0 || testing.Short() && (x+k)%4 > 0 {
					continue
				}
				turned[k] = byte(x)
				wantRead(t, what, turned)
			}
		}
	}
}

// Numbers that are not as short as can be, or too great; lists and bytes whose number is greater than what is left.
func TestP23_3_Forms(t *testing.T) {
	by := slices.Repeat([]byte{5}, 20)
	number := func(ahead, behind []byte) map[string][]byte {
		l := map[string][]byte{}
		for what, n := range map[string][]byte{
			"a nought of one byte": {1, 0}, "of two bytes": {2, 0, 1}, "noughts": {3, 0, 0, 0}, "nine bytes": {9, 1, 1, 1, 1, 1, 1, 1, 1, 1}, "2^63": {8, 128, 0, 0, 0, 0, 0, 0, 0}, "2^64 - 1": {8, 255, 255, 255, 255, 255, 255, 255, 255}, "255 bytes": append([]byte{255}, make([]byte, 255)...),
		} {
			l[what] = slices.Concat(ahead, n, behind)
		}
		return l
	}
	for _, x := range []struct{ ahead, behind []byte }{
		{[]byte{1}, []byte{0}}, {[]byte{1, 0}, nil}, {[]byte{2}, nil}, {[]byte{3}, nil}, {[]byte{4}, by}, {[]byte{5}, append([]byte{1, 1}, by...)}, {[]byte{5, 0}, by}, {[]byte{6}, by}, {[]byte{7}, append([]byte{0}, by...)}, {[]byte{7, 0}, by}, {[]byte{8}, nil},
		{slices.Concat([]byte{1, 0, 1, 1, 1}, by), nil}, {slices.Concat([]byte{1, 0, 1, 1, 2}, by), []byte{0}}, {slices.Concat([]byte{1, 0, 1, 1, 2}, by, []byte{0}), nil},
		{slices.Concat([]byte{1, 0, 1, 1, 3}, by, []byte{0}, by), []byte{0}}, {slices.Concat([]byte{1, 0, 1, 1, 3}, by, []byte{0}, by, []byte{0}), nil}, {slices.Concat([]byte{1, 0, 1, 1, 4}, by), nil},
		{slices.Concat([]byte{1, 0, 1, 1, 8}, by), nil}, {slices.Concat([]byte{1, 0, 1, 1, 10}, by, []byte{0}), nil}, {slices.Concat([]byte{1, 0, 1, 1, 12}, by, by), nil}, {slices.Concat([]byte{1, 0, 1, 1, 13}, by, []byte{0}), nil},
	} {
		for what, b := range number(x.ahead, x.behind) {
			isAmount := len(x.ahead) == 46 && len(x.behind) == 1 // may be greater than a number
			if wantRead(t, what, b) && !(isAmount && strings.Contains("nine bytes, 2^63, 2^64 - 1", what)) {
				t.Errorf("%s: %x is read", what, b)
			}
		}
		if !wantRead(t, "a nought", slices.Concat(x.ahead, []byte{0}, x.behind)) {
			t.Errorf("%x 0 %x is not read", x.ahead, x.behind)
		}
	}
	for _, count := range [][]byte{{1, 2}, {1, 3}, {1, 22}, {1, 255}, {2, 1, 0}, {2, 1, 1}, {2, 255, 255}, {4, 255, 255, 255, 255}, {8, 127, 255, 255, 255, 255, 255, 255, 255}} {
		for what, b := range map[string][]byte{
			"operations": slices.Concat([]byte{1, 0}, count, []byte{6}, by),
			"a body":     slices.Concat([]byte{1, 0, 1, 1, 4}, by, count, []byte{7}),
			"a path":     slices.Concat([]byte{1, 0, 1, 1, 13}, by, []byte{0}, count, make([]byte, 32)),
			"too few":    slices.Concat([]byte{1, 0}, count),
		} {
			if wantRead(t, what, b) {
				t.Errorf("%s: %x is read", what, b)
			}
		}
	}
	// As many as are there, too few, too many.
	for n := range 5 {
		for said := range 7 {
			b := slices.Concat([]byte{1, 0}, num(said), bytes.Repeat(append([]byte{6}, by...), n))
			if got := wantRead(t, "so many operations", b); got != (n == said) {
				t.Errorf("%d operations said to be %d are read: %v", n, said, got)
			}
		}
	}
}

// An operation of no kind, wherever it stands, and whatever stands behind it.
func TestP23_3_OperationOfNoKind(t *testing.T) {
	good := append([]byte{6}, ann[:]...)
	for n := range 4 {
		for _, kind := range []byte{0, 14, 15, 128, 255} {
			for _, by := range [][]byte{nil, ann[:]} { // just the kind, and good ones again behind it; or one that looks whole
				for _, rest := range [][]byte{nil, good, {1}, {6}, make([]byte, 60), bytes.Repeat(good, 3)} {
					for said := range 7 {
						b := slices.Concat([]byte{1, 0}, num(said), bytes.Repeat(good, n), []byte{kind}, by, rest)
						if got := wantRead(t, "of no kind", b); got && said > n {
							t.Errorf("%x is read", b)
						}
					}
				}
			}
		}
	}
}

// A reader that gives up says why: of an operation that stands in a list, too.
func TestReaderGivesUp(t *testing.T) {
	good := append([]byte{6}, ann[:]...)
	for _, x := range []struct {
		b   []byte
		why api.Errno
	}{
		{nil, 31}, {[]byte{9}, 32}, {[]byte{0}, 32}, {[]byte{2}, 31}, {[]byte{2, 2, 0, 1}, 32}, {[]byte{2, 9}, 32}, {[]byte{2, 0, 0}, 33}, {[]byte{4, 0, 1}, 31}, {make([]byte, mega+1), 30},
		{slices.Concat([]byte{1, 0, 1, 2}, good, good[:20]), 31}, {slices.Concat([]byte{1, 0, 1, 2, 14}, good, good), 32}, {slices.Concat([]byte{1, 0, 1, 1}, good, good), 33}, {slices.Concat([]byte{1, 0, 2, 1, 1}, good), 30},
		{slices.Concat([]byte{1, 0, 1, 1, 13}, ann[:], []byte{0, 1, 65}, make([]byte, 99)), 30},
	} {
		o, err := orderForm().read(x.b)
		var g gaveUp
		if !errors.As(err, &g) || !errors.Is(err, x.why) || !isGivenUp(fmt.Errorf("wrapped: %w", err)) || !strings.Contains(err.Error(), x.why.Error()) {
			t.Errorf("%x: %+v, %v, not %d", x.b[:min(len(x.b), 50)], o, err, int(x.why))
		}
	}
	for _, o := range samples() {
		if _, err := orderForm().read(orderBytes(o)); err != nil || isGivenUp(err) {
			t.Errorf("%s: %v", textOf(orderBytes(o)), err)
		}
	}
}

func FuzzReadAgainstTheWords(f *testing.F) {
	for _, o := range samples() {
		if b := orderBytes(o); len(b) < 400 {
			f.Add(b)
		}
	}
	f.Add(headerBytes(usual()))
	f.Fuzz(func(t *testing.T, b []byte) {
		wantRead(t, "any bytes", b)
		wantNew(t, "any bytes", b)
		x := newBoth(t, usual())
		x.do(t, "ahead", blockAt(5, list(0), send(ann, 1)))
		x.raw(t, "any bytes", b)
		x.wantTold(t, "any bytes")
	})
}
